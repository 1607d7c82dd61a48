/- Maps of whole numbers that a law makes: what they hold, and how great an orders' area is filled. -/
import Derived.Test.YtbacakblboodeaaBndL
import Derived.Test.YtbacakblboodeaaMaths
import Derived.Maps.OwnSet
namespace Go.Proofs.Ytbacakblboodeaa
open Go.RowKit Go.Maps
set_option linter.unusedVariables false
set_option maxRecDepth 100000

theorem lawInt : Keyed Try.prog 3 := int_keyed Try.underlying3
theorem zeroInt (w : World) : (zeroValue 3).run Try.prog w = .ok (.int .i64 0) w := by kernel_rfl
def InR (x : Int) : Prop := -9223372036854775808 ≤ x ∧ x ≤ 9223372036854775807
theorem InR.wf {x : Int} (h : InR x) : (Lit.int .i64 x).wf = true := by
  have h1 := h.1
  have h2 := h.2
  simp [Lit.wf, IntKind.min, IntKind.max, IntKind.bits, IntKind.signed]
  omega
theorem InR.key {x : Int} (h : InR x) : keyOf Try.prog 3 (.int .i64 x) = some (.int .i64 x) := keyOf_int_mk Try.underlying3 h.wf
/-- a map of whole numbers, by what it tells of each -/
def MapI (w : World) (b : Nat) (n : Nat) (f : Int → Int) : Prop :=
  ∃ (k : Nat) (D : DataW Unit), w.ownsMap Try.prog 3 (plainElem Try.prog 3) b k D ∧ k ≤ n ∧ ∀ x : Int, D.atKey (.int .i64 x) (.lit (.int .i64 0)) = .lit (.int .i64 (f x))
theorem MapI.at_ {w w' : World} {b n : Nat} {f : Int → Int} (h : MapI w b n f) (hb : w'.heap[b]? = w.heap[b]?) : MapI w' b n f := by
  obtain ⟨k, D, ⟨es, clock, h1, h2⟩, h3⟩ := h
  exact ⟨k, D, ⟨es, clock, hb.trans h1, h2⟩, h3⟩
theorem MapI.lt {w : World} {b n : Nat} {f : Int → Int} (h : MapI w b n f) : b < w.heap.size := by
  obtain ⟨k, D, h1, _⟩ := h
  exact h1.lt
theorem MapI.below {w w' : World} {b n : Nat} {f : Int → Int} (h : MapI w b n f) (hb : Below w.heap.size w w') : MapI w' b n f := h.at_ (hb.block b h.lt)
theorem MapI.made (w : World) : MapI (w.alloc (.map #[] 0)) w.heap.size 0 (fun _ => 0) :=
  ⟨0, .map [], World.ownsMap_made _ _ _ _, Nat.le_refl _, fun x => rfl⟩
theorem MapI.put {w : World} {b n : Nat} {f : Int → Int} (h : MapI w b n f) {x v : Int} (hr : InR x) (hv : InR v) (hn : n ≤ 100000) :
    ∃ w', (Instr.mapUpdate 55 (.map (some b)) (.int .i64 x) (.int .i64 v)).run Try.prog w = .ok () w' ∧ Hid (MapI w' b (n + 1) (fun y => if y = x then v else f y) ∧ w.grownBy w' (some b)) := by
  obtain ⟨k, D, h1, h2, h4⟩ := h
  obtain ⟨w', e, h5, h6⟩ := h1.update lawInt Try.underlying55 (by unfold maxLen; omega) hr.key (plainElem_int Try.underlying3 hv.wf)
  refine ⟨w', e, ⟨k + 1, _, h5, by omega, fun y => ?_⟩, h6⟩
  by_cases e : y = x
  · subst e
    rw [Maps.atKey_put_same h1.isMap (by trivial)]
    simp
  · have hne : Lit.int .i64 y ≠ Lit.int .i64 x := fun h => e (by injection h)
    rw [Maps.atKey_put_other hne, h4 y]
    simp [e]
theorem MapI.look {w : World} {b n : Nat} {f : Int → Int} (h : MapI w b n f) {x : Int} (hr : InR x) (z : Int) (hz : f x = z) : (Instr.lookup 55 (.map (some b)) (.int .i64 x) false).run Try.prog w = .ok (.int .i64 z) w := by
  obtain ⟨k, D, h1, h2, h4⟩ := h
  obtain ⟨c, e, hc, _⟩ := h1.lookup_int lawInt Try.underlying55 Try.underlying3 (zeroInt _) hr.key
  rw [e]
  rw [h4 x] at hc
  subst hz
  injection hc with hc
  injection hc with _ hc
  rw [hc]
theorem wpList_mapUpdate_any {P : Program} {w : World} {ops : Array Oper} {rest : List Oper} {o : Oper} {a : Act} {Q : Exit → Act → World → Prop}
    (hg : o.guard = none) (m x v : Operand) (t : TypeId) (hop : o.op = Op.mapUpdate t m x v) (mv key val : Value) (hm : a.eval m = mv) (hx : a.eval x = key) (hv : a.eval v = val) (R : World → Prop)
    (hr : ∃ w', (Instr.mapUpdate t mv key val).run P w = .ok () w' ∧ R w') (hK : ∀ w', R w' → wpList P ops Q rest (a.put o.dst undef) w') : wpList P ops Q (o :: rest) a w := by
  refine wpList_plain hg fun K' hK' => ?_
  obtain ⟨w', hrun, r1⟩ := hr
  unfold Oper.wp
  simp [execOp, hop, hm, hx, hv, hrun, Result.andThen]
  exact hK' _ _ (hK w' r1)
theorem grown_other {b : Nat} {w w' : World} (h : w.grownBy w' (some b)) (k : Nat) (hk : k < w.heap.size) (hb : k ≠ b) : w'.heap[k]? = w.heap[k]? := h.block k hk (by simpa using hb)
theorem grown_below {B b : Nat} {w w' : World} (h : w.grownBy w' (some b)) (hb : B ≤ b) (hw : b < w.heap.size) : Below B w w' := (Below.refl B w).grown h (by omega) fun k e => by injection e with e; omega
end Go.Proofs.Ytbacakblboodeaa
