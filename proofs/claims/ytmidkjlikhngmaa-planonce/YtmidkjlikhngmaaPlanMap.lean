/- Maps that a law makes of whole numbers: which were met. -/
import Derived.Test.YtmidkjlikhngmaaPlanLaw
import Derived.Test.YtmidkjlikhngmaaPlanMath2
import Derived.Maps.OwnSet
namespace Go.Proofs.Ytmidkjlikhngmaa
open Go.RowKit Go.Maps
set_option linter.unusedVariables false
set_option maxRecDepth 100000

theorem lawInt : Keyed Try.prog 3 := int_keyed Try.underlying3
theorem zeroInt (w : World) : (zeroValue 3).run Try.prog w = .ok (.int .i64 0) w := by kernel_rfl
theorem zeroBool (w : World) : (zeroValue 4).run Try.prog w = .ok (.bool false) w := by kernel_rfl
def InR (x : Int) : Prop := -9223372036854775808 ≤ x ∧ x ≤ 9223372036854775807
theorem InR.wf {x : Int} (h : InR x) : (Lit.int .i64 x).wf = true := by
  have h1 := h.1
  have h2 := h.2
  simp [Lit.wf, IntKind.min, IntKind.max, IntKind.bits, IntKind.signed]
  omega
theorem InR.key {x : Int} (h : InR x) : keyOf Try.prog 3 (.int .i64 x) = some (.int .i64 x) := keyOf_int_mk Try.underlying3 h.wf

/-- a map whose keys are these, each with one and the same value -/
def Met (E : TypeId) (one zero : Lit) (w : World) (b : Nat) (L : List Int) : Prop :=
  ∃ (n : Nat) (D : DataW Unit), w.ownsMap Try.prog 3 (plainElem Try.prog E) b n D ∧ n ≤ L.length ∧ Maps.size D = L.length ∧ ∀ x : Int, D.atKey (.int .i64 x) (.lit zero) = .lit (if x ∈ L then one else zero) ∧ Maps.has D (.int .i64 x) = decide (x ∈ L)
theorem Met.at_ {E : TypeId} {one zero : Lit} {w w' : World} {b : Nat} {L : List Int} (h : Met E one zero w b L) (hb : w'.heap[b]? = w.heap[b]?) : Met E one zero w' b L := by
  obtain ⟨n, D, ⟨es, clock, h1, h2⟩, h3⟩ := h
  exact ⟨n, D, ⟨es, clock, hb.trans h1, h2⟩, h3⟩
theorem Met.lt {E : TypeId} {one zero : Lit} {w : World} {b : Nat} {L : List Int} (h : Met E one zero w b L) : b < w.heap.size := by
  obtain ⟨n, D, h1, _⟩ := h
  exact h1.lt
theorem Met.below {E : TypeId} {one zero : Lit} {w w' : World} {b : Nat} {L : List Int} (h : Met E one zero w b L) (hb : Below w.heap.size w w') : Met E one zero w' b L := h.at_ (hb.block b h.lt)
theorem Met.made (E : TypeId) (one zero : Lit) (w : World) : Met E one zero (w.alloc (.map #[] 0)) w.heap.size [] :=
  ⟨0, .map [], World.ownsMap_made _ _ _ _, Nat.le_refl _, rfl, fun x => ⟨rfl, rfl⟩⟩
/-- one key more -/
theorem Met.put {E : TypeId} {one zero : Lit} {T : TypeId} {w : World} {b : Nat} {L : List Int} (h : Met E one zero w b L) (ht : Try.prog.underlying T = some (.map 3 E)) {x : Int} (hx : x ∉ L) (hr : InR x) (hL : L.length ≤ 100000) {val : Value} (hv : plainElem (H := Unit) Try.prog E val = some (.lit one, [])) :
    ∃ w', (Instr.mapUpdate T (.map (some b)) (.int .i64 x) val).run Try.prog w = .ok () w' ∧ Hid (Met E one zero w' b (L ++ [x]) ∧ w.grownBy w' (some b)) := by
  obtain ⟨n, D, h1, h2, h3, h4⟩ := h
  obtain ⟨w', e, h5, h6⟩ := h1.update lawInt ht (by unfold maxLen; omega) hr.key hv
  refine ⟨w', e, ⟨n + 1, _, h5, by rw [List.length_append]; simp; omega, ?_, fun y => ?_⟩, h6⟩
  · rw [Maps.size_put (h1.tidy lawInt), (h4 x).2, if_neg (by simpa using hx), h3, List.length_append]
    rfl
  · by_cases e : y = x
    · subst e
      rw [Maps.atKey_put_same h1.isMap (by trivial), Maps.has_put_same h1.isMap (by trivial)]
      simp
    · have hne : Lit.int .i64 y ≠ Lit.int .i64 x := fun h => e (by injection h)
      rw [Maps.atKey_put_other hne, Maps.has_put_other hne, (h4 y).1, (h4 y).2]
      simp [e]
abbrev Times := Met 3 (.int .i64 1) (.int .i64 0)
abbrev Trucks := Met 4 (.bool true) (.bool false)
theorem Times.look {w : World} {b : Nat} {L : List Int} (h : Met 3 (.int .i64 1) (.int .i64 0) w b L) {x : Int} (hr : InR x) (z : Int) (hz : (if x ∈ L then (1 : Int) else 0) = z) : (Instr.lookup 47 (.map (some b)) (.int .i64 x) false).run Try.prog w = .ok (.int .i64 z) w := by
  obtain ⟨n, D, h1, h2, h3, h4⟩ := h
  obtain ⟨c, e, hc, _⟩ := h1.lookup_int lawInt Try.underlying47 Try.underlying3 (zeroInt _) hr.key
  rw [e]
  rw [(h4 x).1] at hc
  subst hz
  by_cases hx : x ∈ L
  · rw [if_pos hx] at hc ⊢
    injection hc with hc
    injection hc with _ hc
    rw [hc]
  · rw [if_neg hx] at hc ⊢
    injection hc with hc
    injection hc with _ hc
    rw [hc]
theorem elem_bool_inv {v : Value} {z : DataW Unit × List MemPlace} (h : plainElem (H := Unit) Try.prog 4 v = some z) : ∃ x, v = .bool x ∧ z = (.lit (.bool x), []) := by
  unfold plainElem at h
  rw [Try.underlying4] at h
  cases v <;> simp at h
  exact ⟨_, rfl, h.symm⟩
theorem Trucks.look {w : World} {b : Nat} {L : List Int} (h : Met 4 (.bool true) (.bool false) w b L) {x : Int} (hr : InR x) (z : Bool) (hz : decide (x ∈ L) = z) : (Instr.lookup 48 (.map (some b)) (.int .i64 x) false).run Try.prog w = .ok (.bool z) w := by
  obtain ⟨n, D, h1, h2, h3, h4⟩ := h
  obtain ⟨v, ps, e, hv⟩ := h1.lookup lawInt Try.underlying48 (zeroBool _) (plainElem_bool Try.underlying4 false) hr.key
  obtain ⟨y, rfl, hy⟩ := elem_bool_inv hv
  rw [e]
  rw [(h4 x).1] at hy
  injection hy with hy _
  subst hz
  by_cases hx : x ∈ L
  · rw [if_pos hx] at hy
    injection hy with hy
    injection hy with hy
    rw [← hy, decide_eq_true hx]
  · rw [if_neg hx] at hy
    injection hy with hy
    injection hy with hy
    rw [← hy, decide_eq_false hx]
theorem Times.len {w : World} {b : Nat} {L : List Int} (h : Met 3 (.int .i64 1) (.int .i64 0) w b L) (n : Nat) (hn : L.length = n) (ty : TypeId) : (Builtin.len_ #[47] ty #[.map (some b)]).run Try.prog w = .ok (.int .i64 (n : Int)) w := by
  obtain ⟨k, D, h1, h2, h3, h4⟩ := h
  rw [h1.len Try.underlying47 ty, h3, hn]
theorem Times.put {w : World} {b : Nat} {L : List Int} (h : Met 3 (.int .i64 1) (.int .i64 0) w b L) {x : Int} (hx : x ∉ L) (hr : InR x) (hL : L.length ≤ 100000) :
    ∃ w', (Instr.mapUpdate 47 (.map (some b)) (.int .i64 x) (.int .i64 1)).run Try.prog w = .ok () w' ∧ Hid (Met 3 (.int .i64 1) (.int .i64 0) w' b (L ++ [x]) ∧ w.grownBy w' (some b)) :=
  Met.put h Try.underlying47 hx hr hL (plainElem_int Try.underlying3 (by decide))
theorem Trucks.put {w : World} {b : Nat} {L : List Int} (h : Met 4 (.bool true) (.bool false) w b L) {x : Int} (hx : x ∉ L) (hr : InR x) (hL : L.length ≤ 100000) :
    ∃ w', (Instr.mapUpdate 48 (.map (some b)) (.int .i64 x) (.bool true)).run Try.prog w = .ok () w' ∧ Hid (Met 4 (.bool true) (.bool false) w' b (L ++ [x]) ∧ w.grownBy w' (some b)) :=
  Met.put h Try.underlying48 hx hr hL (plainElem_bool Try.underlying4 true)
theorem wpList_mapUpdate_any {P : Program} {w : World} {ops : Array Oper} {rest : List Oper} {o : Oper} {a : Act} {Q : Exit → Act → World → Prop}
    (hg : o.guard = none) (m x v : Operand) (t : TypeId) (hop : o.op = Op.mapUpdate t m x v) (mv key val : Value) (hm : a.eval m = mv) (hx : a.eval x = key) (hv : a.eval v = val) (R : World → Prop)
    (hr : ∃ w', (Instr.mapUpdate t mv key val).run P w = .ok () w' ∧ R w') (hK : ∀ w', R w' → wpList P ops Q rest (a.put o.dst undef) w') : wpList P ops Q (o :: rest) a w := by
  refine wpList_plain hg fun K' hK' => ?_
  obtain ⟨w', hrun, r1⟩ := hr
  unfold Oper.wp
  simp [execOp, hop, hm, hx, hv, hrun, Result.andThen]
  exact hK' _ _ (hK w' r1)
/-- a map that was written is no other block -/
theorem grown_below {B b : Nat} {w w' : World} (h : w.grownBy w' (some b)) (hb : B ≤ b) (hw : b < w.heap.size) : Below B w w' := (Below.refl B w).grown h (by omega) fun k e => by injection e with e; omega
theorem grown_other {b : Nat} {w w' : World} (h : w.grownBy w' (some b)) (k : Nat) (hk : k < w.heap.size) (hb : k ≠ b) : w'.heap[k]? = w.heap[k]? := h.block k hk (by simpa using hb)
end Go.Proofs.Ytmidkjlikhngmaa
