/- Plans as they lie in memory; rows of routes, and of numbers, that are a call's own. -/
import Derived.Test.YtbacakblboodeaaPlanShelf
import Derived.Test.YtbacakblboodeaaRouteE
namespace Go.Proofs.Ytbacakblboodeaa
open Go.RowKit
set_option linter.unusedVariables false
set_option maxRecDepth 100000

/-- a plan by value, and what its rows hold -/
structure Pd where
  rA : Option Addr
  rm : Nat
  rc : Nat
  rs : List Rd
  uA : Option Addr
  um : Nat
  uc : Nat
  us : List Int
def Pd.cells (p : Pd) : Array Value := #[.slice p.rA p.rm p.rc, .slice p.uA p.um p.uc]
def Rd.ro (r : Rd) : Pl.Ro := ⟨r.tr, r.st⟩
def ros (rs : List Rd) : List Pl.Ro := rs.map Rd.ro
theorem ros_at {rs : List Rd} {k : Nat} {r : Rd} (h : rs[k]? = some r) : (ros rs)[k]? = some r.ro := by unfold ros; rw [List.getElem?_map, h]; rfl
theorem ros_take (rs : List Rd) (k : Nat) : ros (rs.take k) = (ros rs).take k := List.map_take
theorem ros_len (rs : List Rd) : (ros rs).length = rs.length := List.length_map _

/-- routes as they lie -/
structure RoAt (w : World) (a : Addr) (r : Rd) : Prop where
  c0 : w.cell? a = some (.int .i64 r.tr)
  c1 : w.cell? ⟨a.block, a.off + 1, none⟩ = some (.slice r.sA r.sm r.sc)
def RowsR (w : World) (A : Option Addr) (rs : List Rd) : Prop := ∀ (k : Nat) (r : Rd), rs[k]? = some r → ∃ ad, A = some ad ∧ RoAt w (ad.add (k * 2)) r
theorem RowsR.below {w w' : World} {A : Option Addr} {rs : List Rd} (h : RowsR w A rs) (hb : Below w.heap.size w w') : RowsR w' A rs := fun k r hr => by
  obtain ⟨ad, e, h1, h2⟩ := h k r hr
  exact ⟨ad, e, by rw [hb.cell (p := ad.add (k * 2)) (lt_of_cell h1)]; exact h1, by rw [hb.cell (lt_of_cell h2)]; exact h2⟩
theorem RowsR.nil (w : World) (A : Option Addr) : RowsR w A [] := fun k r h => by simp at h

structure PAt (w : World) (p : Pd) : Prop where
  rl : p.rs.length = p.rm
  r2 : p.rm ≤ 1000
  rows : RowsR w p.rA p.rs
  ra : ∀ r ∈ p.rs, RAt w r
  tot : (Pl.stops (ros p.rs)).length ≤ 10000
  ul : p.us.length = p.um
  u2 : p.um ≤ 1000
  us : IntsAt w p.uA p.us
theorem PAt.below {w w' : World} {p : Pd} (h : PAt w p) (hb : Below w.heap.size w w') : PAt w' p := ⟨h.rl, h.r2, h.rows.below hb, fun r hr => (h.ra r hr).below hb, h.tot, h.ul, h.u2, h.us.below hb⟩
theorem PAt.at_ {w : World} {p : Pd} (h : PAt w p) {k : Nat} {r : Rd} (hr : p.rs[k]? = some r) : ∃ ad, p.rA = some ad ∧ RoAt w (ad.add (k * 2)) r ∧ RAt w r := by
  obtain ⟨ad, e, h1⟩ := h.rows k r hr
  exact ⟨ad, e, h1, h.ra r (List.mem_of_getElem? hr)⟩
/-- a plan in a box of its own -/
structure PX (w : World) (b : Nat) (p : Pd) : Prop where
  box : Box w b p.cells 45
  at_ : PAt w p
theorem PX.below {w w' : World} {b : Nat} {p : Pd} (h : PX w b p) (hb : Below w.heap.size w w') : PX w' b p := ⟨h.box.below hb, h.at_.below hb⟩
theorem PX.new {w : World} {p : Pd} (h : PAt w p) : PX (w.alloc (.cells #[.slice p.rA p.rm p.rc, .slice p.uA p.um p.uc] 45)) w.heap.size p := ⟨Box.new w _ _, h.below (below_alloc _ _)⟩
theorem PX.c0 {w : World} {b : Nat} {p : Pd} (h : PX w b p) : w.cell? ⟨b, 0, none⟩ = some (.slice p.rA p.rm p.rc) := h.box.cell 0 _ rfl
theorem PX.c1 {w : World} {b : Nat} {p : Pd} (h : PX w b p) : w.cell? ⟨b, 1, none⟩ = some (.slice p.uA p.um p.uc) := h.box.cell 1 _ rfl
theorem PX.old {w w' : World} {b : Nat} {p : Pd} (h : PX w b p) {B : Nat} (hb : Below B w w') (hB : b < B) (hp : PAt w' p) : PX w' b p := ⟨h.box.old hb hB, hp⟩

/-- a new list of numbers is told -/
def NewI (w : World) (l : List Int) (e : Ending) (w' : World) : Prop := ∃ A c, e = .returned (.slice A l.length c) ∧ l.length ≤ c ∧ Hid (Below w.heap.size w w' ∧ IntsAt w' A l ∧ ∀ ad, A = some ad → w.heap.size ≤ ad.block ∧ ad.spot = none)
theorem NewI.old {w V w' : World} {l : List Int} {e : Ending} (h : NewI V l e w') (hb : Below w.heap.size w V) : NewI w l e w' := by
  obtain ⟨A, c, he, h1, h2⟩ := h
  exact ⟨A, c, he, h1, below_next hb h2.out.1, h2.out.2.1, fun ad e => ⟨Nat.le_trans hb.size (h2.out.2.2 ad e).1, (h2.out.2.2 ad e).2⟩⟩
theorem newi_sorted {w W w' : World} {g m c : Nat} {A : Option Addr} {l s : List Int} (hg : w.heap.size ≤ g) (hw : Below w.heap.size w W) (hs : Pl.srt l = s) (h : Below g W w' ∧ IntsAt w' A (Pl.srt l) ∧ l.length = m ∧ m ≤ c ∧ ∀ ad, A = some ad → g ≤ ad.block ∧ ad.spot = none) : NewI w s (.returned (.slice A m c)) w' := by
  subst hs
  obtain ⟨h1, h2, h3, h4, h5⟩ := h
  have e : (Pl.srt l).length = m := by rw [Pl.srt_len, h3]
  exact ⟨A, c, by rw [e], by rw [e]; exact h4, hw.trans (h1.mono hg), h2, fun ad e => ⟨Nat.le_trans hg (h5 ad e).1, (h5 ad e).2⟩⟩

theorem ownI_nil (W : World) (base : Nat) : OwnI W base (.slice none 0 0) [] := ⟨by simp, .inl ⟨rfl, rfl⟩⟩
theorem OwnI.put {W W' : World} {base : Nat} {v : Value} {l : List Int} (h : OwnI W base v l) (hb : ∀ k, base ≤ k → k < W.heap.size → W'.heap[k]? = W.heap[k]?) : OwnI W' base v l := by
  obtain ⟨h1, h2⟩ := h
  refine ⟨h1, ?_⟩
  rcases h2 with h2 | ⟨g, cap, cur, hv, hg, hh, r⟩
  · exact .inl h2
  · exact .inr ⟨g, cap, cur, hv, hg, (hb g hg (Array.getElem?_eq_some_iff.1 hh).1).trans hh, r⟩
/-- an append of a row to one's own, and what is kept -/
theorem owni_next {w W : World} {g : Nat} {A : Option Addr} {m c : Nat} {l : List Int} (hw : Below w.heap.size w W) (hg : w.heap.size ≤ g) (hgW : g ≤ W.heap.size) (h : OwnI W g (.slice A m c) l) (B : Option Addr) (n d : Nat) (b : List Int) (hn : b.length = n) (hb : IntsAt W B b) (hs : l.length + n ≤ 100000) (M : Nat) (hM : (l ++ b).length = M) :
    ∃ v' w', (Builtin.append_ #[29, 29] 29 #[.slice A m c, .slice B n d]).run Try.prog W = .ok v' w' ∧ ∃ A' c', v' = .slice A' M c' ∧ Hid (OwnI w' g (.slice A' M c') (l ++ b) ∧ Below w.heap.size w w' ∧ g ≤ w'.heap.size ∧ Below g W w') := by
  obtain ⟨v', w', h1, A', c', e, h2⟩ := owni_app h hgW B n d b hn hb hs
  have hM' : l.length + n = M := by rw [← hM, List.length_append, hn]
  rw [hM'] at e
  subst e
  exact ⟨_, w', h1, A', c', rfl, h2.out.1, hw.trans (h2.out.2.mono hg), Nat.le_trans hgW h2.out.2.size, h2.out.2⟩

theorem make_ints (n : Nat) (hn : n ≤ 200000) (w : World) : (Instr.makeSlice 29 (.int .i64 (n : Int)) (.int .i64 (n : Int))).run Try.prog w = .ok (.slice (some ⟨w.heap.size, 0, none⟩) n n) (w.alloc (.cells (Array.replicate n (Value.int .i64 0)) 3)) := by
  obtain ⟨i, h1, h2, h3, h4⟩ := info_parts4 int_info
  have := run_make (P := Try.prog) w 29 3 i _ Try.underlying29 h1 h2 .i64 .i64 n n (by omega) (by omega) (by rw [h4]; omega) (by omega)
  rw [this, made_nums _ (by decide) (fun i hi => by have h1 : i < 1 := hi; obtain rfl : i = 0 := by omega
                                                    rfl), h3, Int.toNat_natCast, Nat.mul_one, arr_zeros]
/-- numbers in a block of their own -/
def NumI (w : World) (g : Nat) (l : List Int) : Prop := Box w g (l.map (Value.int .i64)).toArray 3
theorem NumI.set {w : World} {g : Nat} {l : List Int} (h : NumI w g l) (k : Nat) (z : Int) : NumI (w.setCell ⟨g, k, none⟩ (.int .i64 z)) g (l.set k z) := by
  unfold NumI Box
  rw [setCell_eq_setRow w g k _ _ _ _ h, setRow_heap w g _ _ _ _ h]
  simp only [List.setIfInBounds_toArray, List.map_set]
theorem NumI.fz {w : World} {g : Nat} {l : List Int} (h : NumI w g l) (k : Nat) : w.frozen? ⟨g, k, none⟩ = false := by unfold World.frozen?; rw [show w.heap[g]? = _ from h]; simp
theorem NumI.cell {w : World} {g k : Nat} {l : List Int} (h : NumI w g l) (hk : k < l.length) : ∃ z, w.cell? ⟨g, k, none⟩ = some (.int .i64 z) := by
  obtain ⟨z, hz⟩ := mlist_at l k hk
  exact ⟨z, Box.cell h k _ (by simp [hz])⟩
theorem NumI.own {w : World} {g m base : Nat} {l : List Int} (h : NumI w g l) (hm : l.length = m) (hb : base ≤ g) (hl : m ≤ 100000) : OwnI w base (.slice (some ⟨g, 0, none⟩) m m) l := by
  subst hm
  exact own_block h hb hl
theorem Nums.cellAt {w : World} {g k : Nat} {l : List Int} (h : Nums w g l) (hk : k < l.length) : ∃ z, w.cell? ⟨g, k, none⟩ = some (.int .i64 z) := by
  obtain ⟨z, hz⟩ := mlist_at l k hk
  exact ⟨z, Box.cell h k _ (by simp [hz])⟩
end Go.Proofs.Ytbacakblboodeaa
