/- Contracts of package bound: what Make leaves. -/
import Derived.Test.YtbacakblboodeaaBndE
namespace Go.Proofs.Ytbacakblboodeaa
open Go.RowKit
set_option linter.unusedVariables false
set_option maxRecDepth 100000

/-- what Make leaves -/
def MakePost (w : World) (r : Bo.C × Int) (e : Ending) (w' : World) : Prop :=
  ∃ q : Ct, e = .returned (.tuple #[.agg #[.slice q.iA q.im q.ic, .slice q.nA q.nm q.nc, .int .i64 q.back, .int .i64 q.rate, .int .i64 q.fixed, .int .i64 q.bound], .int .i64 r.2]) ∧ q.c = r.1 ∧ Hid (Below w.heap.size w w' ∧ CtAt w' q)
theorem MakePost.zero {w w' : World} {r : Bo.C × Int} {e : Int} (h : r = (Bo.none, e)) (hb : Below w.heap.size w w') : MakePost w r (.returned (.tuple #[.agg #[.slice none 0 0, .slice none 0 0, .int .i64 0, .int .i64 0, .int .i64 0, .int .i64 0], .int .i64 e])) w' := by
  subst h
  exact ⟨zeroC, rfl, rfl, hb, zeroC_at _⟩
/-- Make's boxes: the world, what is answered -/
structure MB (V : World) (b1 b2 : Nat) (x : Wd) : Prop where
  w : WX V b1 x
  q : Box V b2 #[.slice none 0 0, .slice none 0 0, .int .i64 0, .int .i64 0, .int .i64 0, .int .i64 0] 31
theorem MB.below {V V' : World} {b1 b2 : Nat} {x : Wd} (h : MB V b1 b2 x) (hb : Below V.heap.size V V') : MB V' b1 b2 x := ⟨h.w.below hb, h.q.below hb⟩
theorem box_next {W W' : World} {b : Nat} {cs : Array Value} {t : TypeId} (h : Box W b cs t) (hb : Hid (Below W.heap.size W W')) : Box W' b cs t := h.below hb.out
theorem MakePost.done' {w V W W' : World} {g b2 : Nat} {iA : Option Addr} {k ic : Nat} {ids : List Int} {nA : Option Addr} {nc : Nat} {inn : List Int} {b r f t v : Int} {res : Bo.C}
    (h : CS V g iA k ic ids nA k nc inn b r f t W) (hbV : b2 < V.heap.size) (hb : Below w.heap.size w W') (key : ∀ k, k ≠ b2 → k ≠ g → W'.heap[k]? = W.heap[k]?) (hk : k ≤ 900) (hi : ids.length = k) (hn : inn.length = k) (hres : res = ⟨ids, inn, b, r, f, v⟩) :
    MakePost w (res, 0) (.returned (.tuple #[.agg #[.slice iA k ic, .slice nA k nc, .int .i64 b, .int .i64 r, .int .i64 f, .int .i64 v], .int .i64 0])) W' := by
  subst hres
  have ho := h.oi
  have hn' := h.on
  have hg := h.hg
  have h1 : IntsAt W' iA ids := by
    obtain ⟨A', c', e, _, _, hI⟩ := ho.ints
    injection e with e1 e2 e3
    subst e1
    refine IntsAt.blocks hI fun ad e => ?_
    rcases ho.2 with ⟨e5, _⟩ | ⟨g1, cp, cur, e5, hg1, _⟩
    · injection e5 with e5; rw [e5] at e; cases e
    · injection e5 with e5; rw [e5] at e; obtain rfl := Option.some.inj e
      exact key g1 (Nat.ne_of_gt (Nat.lt_of_lt_of_le hbV (Nat.le_trans hg (Nat.le_of_succ_le hg1)))) (Nat.ne_of_gt hg1)
  have h2 : IntsAt W' nA inn := by
    obtain ⟨A', c', e, _, _, hI⟩ := hn'.ints
    injection e with e1 e2 e3
    subst e1
    refine IntsAt.blocks hI fun ad e => ?_
    rcases hn'.2 with ⟨e5, _⟩ | ⟨g1, cp, cur, e5, hg1, _⟩
    · injection e5 with e5; rw [e5] at e; cases e
    · injection e5 with e5; rw [e5] at e; obtain rfl := Option.some.inj e
      exact key g1 (Nat.ne_of_gt (Nat.lt_of_lt_of_le hbV (Nat.le_trans hg (Nat.le_of_succ_le hg1)))) (Nat.ne_of_gt hg1)
  exact ⟨⟨iA, k, ic, ids, nA, k, nc, inn, b, r, f, v⟩, rfl, rfl, hb, ⟨hi, hk, h1, hn, hk, h2⟩⟩
theorem MakePost.done {w V W : World} {g b2 : Nat} {iA : Option Addr} {k ic : Nat} {ids : List Int} {nA : Option Addr} {nc : Nat} {inn : List Int} {b r f t v : Int} {res : Bo.C}
    (h : CS V g iA k ic ids nA k nc inn b r f t W) (hw : Below w.heap.size w V) (hb2 : w.heap.size ≤ b2) (hbV : b2 < V.heap.size) (hk : k ≤ 900) (hi : ids.length = k) (hn : inn.length = k) (hres : res = ⟨ids, inn, b, r, f, v⟩) :
    MakePost w (res, 0) (.returned (.tuple #[.agg #[.slice iA k ic, .slice nA k nc, .int .i64 b, .int .i64 r, .int .i64 f, .int .i64 v], .int .i64 0])) (((((((W.setCell ⟨g, 5, none⟩ (.int .i64 v)).setCell ⟨b2, 0, none⟩ (.slice iA k ic)).setCell ⟨b2, 1, none⟩ (.slice nA k nc)).setCell ⟨b2, 2, none⟩ (.int .i64 b)).setCell ⟨b2, 3, none⟩ (.int .i64 r)).setCell ⟨b2, 4, none⟩ (.int .i64 f)).setCell ⟨b2, 5, none⟩ (.int .i64 v)) :=
  MakePost.done' h hbV (below_set6 ((below_next hw h.bel).setCell (p := ⟨g, 5, none⟩) (Nat.le_trans hw.size h.hg) _) b2 hb2 _ _ _ _ _ _) (fun k h1 h2 => (but_set6 _ b2 _ _ _ _ _ _ k h1).trans (Go.Deep.blk_setCell_other _ _ _ _ h2)) hk hi hn hres

end Go.Proofs.Ytbacakblboodeaa
