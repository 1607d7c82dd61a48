/- Lists of nodes of one's own: what an append makes of them. -/
import Derived.Test.YtbacakblboodeaaAreaOpen
import Derived.Lib.AppendZerosOnto
import Derived.Shelf.Abstract
namespace Go.Proofs.Ytbacakblboodeaa
open Go.RowKit Go.Shelf
set_option linter.unusedVariables false

def OwnI (W : World) (base : Nat) (v : Value) (l : List Int) : Prop := W.ownsRow base 3 1 v l.length (l.map (Value.int .i64))
theorem OwnI.ints {W : World} {base : Nat} {v : Value} {l : List Int} (h : OwnI W base v l) : ∃ A c, v = .slice A l.length c ∧ l.length ≤ c ∧ c ≤ maxLen ∧ IntsAt W A l := by
  have h' := h
  rcases h'.2 with ⟨rfl, h2⟩ | ⟨g, cap, cur, rfl, hbg, hg, hnc, hcm, _⟩
  · have : l = [] := List.eq_nil_of_length_eq_zero h2
    subst this
    exact ⟨none, 0, rfl, Nat.le_refl _, by decide, IntsAt.nil _ _⟩
  · refine ⟨_, cap, rfl, hnc, hcm, fun k z hz => ⟨_, rfl, h.cells (g := g) rfl k _ ?_⟩⟩
    rw [List.getElem?_map, hz]
    rfl
theorem OwnI.below {W W' : World} {base : Nat} {v : Value} {l : List Int} (h : OwnI W base v l) (hb : Below W.heap.size W W') : OwnI W' base v l := by
  obtain ⟨h1, h2⟩ := h
  refine ⟨h1, ?_⟩
  rcases h2 with h2 | ⟨g, cap, cur, hv, hg, hh, r⟩
  · exact .inl h2
  · exact .inr ⟨g, cap, cur, hv, hg, (hb.block g (Array.getElem?_eq_some_iff.1 hh).1).trans hh, r⟩
theorem own_none (W : World) (base : Nat) (h : base ≤ W.heap.size) : OwnI (W.alloc (.cells #[] 3)) base (.slice (some ⟨W.heap.size, 0, none⟩) 0 0) [] :=
  ⟨by simp, .inr ⟨W.heap.size, 0, #[], rfl, h, heap_alloc_new W _, Nat.le_refl _, by decide, by simp, by simp⟩⟩
theorem own_one (W : World) (base : Nat) (z : Int) (h : base ≤ W.heap.size) : OwnI (W.alloc (.cells #[.int .i64 z] 3)) base (.slice (some ⟨W.heap.size, 0, none⟩) 1 1) [z] :=
  ⟨by simp, .inr ⟨W.heap.size, 1, #[.int .i64 z], rfl, h, heap_alloc_new W _, Nat.le_refl _, by decide, by simp, by simp⟩⟩

theorem info_parts3 {i : Option TypeInfo} {z : Value} {s b : Nat} (h : i.map (fun i => (i.zero, i.size, i.bytes)) = some (some z, s, b)) : ∃ j, i = some j ∧ j.zero = some z ∧ j.size = s ∧ j.bytes = b := by
  cases i with
  | none => simp at h
  | some j => simp at h; exact ⟨j, rfl, h.1, h.2.1, h.2.2⟩
theorem int_info : (Try.prog.info? 3).map (fun i => (i.zero, i.size, i.bytes)) = some (some (.int .i64 0), 1, 8) := by kernel_rfl

/-- what an append of nodes to such a row leaves -/
def ByI (W : World) (base : Nat) (l : List Int) (m : Nat) (v' : Value) (w' : World) : Prop := ∃ A c, v' = .slice A m c ∧ Hid (OwnI w' base v' l ∧ Below base W w')
theorem owni_app {W : World} {base : Nat} {v : Value} {l : List Int} (h : OwnI W base v l) (hb : base ≤ W.heap.size) (A : Option Addr) (m c : Nat) (b : List Int) (hm : b.length = m) (hby : IntsAt W A b) (hs : l.length + m ≤ 100000) :
    ∃ v' w', (Builtin.append_ #[29, 29] 29 #[v, .slice A m c]).run Try.prog W = .ok v' w' ∧ ByI W base (l ++ b) (l.length + m) v' w' := by
  obtain ⟨i0, hi0, hz0, hz1, hz2⟩ := info_parts3 int_info
  cases A with
  | none =>
    have hl0 : b = [] := by
      cases b with
      | nil => rfl
      | cons z b =>
        obtain ⟨ad, h1, _⟩ := hby 0 z rfl
        cases h1
    subst hl0
    obtain rfl : m = 0 := by simpa using hm.symm
    rw [List.append_nil, Nat.add_zero]
    obtain ⟨A', c', e, _⟩ := h.ints
    refine ⟨v, W, ?_, A', c', e, h, Below.refl _ _⟩
    rcases h.2 with ⟨rfl, h0⟩ | ⟨g, cap, cur, rfl, _, _, hnc, _⟩
    · simp [Builtin.append_, run_underlying Try.underlying29, sizeOf, typeInfo, hi0, Builtin.lenOf, Builtin.firstCells]
    · simp [Builtin.append_, run_underlying Try.underlying29, sizeOf, typeInfo, hi0, Builtin.lenOf, Builtin.firstCells, hnc, storeCells]
  | some ad =>
    obtain ⟨v', w', h1, h2, h3, _⟩ := run_append_own (P := Try.prog) W base 29 29 3 i0 _ 1 8 Try.underlying29 hi0 hz0 hz1 hz2 rfl (by omega) v l.length (l.map (Value.int .i64)) h ad m c (b.map (Value.int .i64)) (by rw [List.length_map, hm, Nat.mul_one])
      (fun j u hu => by
        rw [List.getElem?_map] at hu
        cases hz : b[j]? with
        | none => rw [hz] at hu; cases hu
        | some z =>
          rw [hz] at hu
          obtain rfl := Option.some.inj hu
          obtain ⟨ad', e, hc⟩ := hby j z hz
          obtain rfl := Option.some.inj e
          exact hc) (by intro x hx; obtain ⟨z, _, rfl⟩ := List.mem_map.1 hx; rfl) (by unfold maxLen; omega) (by omega) hb
    have ho : OwnI w' base v' (l ++ b) := by unfold OwnI; rw [List.length_append, hm, List.map_append]; exact h2
    obtain ⟨A', c', e, _⟩ := ho.ints
    refine ⟨v', w', h1, A', c', by rw [e, List.length_append, hm], ho, ?_⟩
    exact ⟨h3.os, h3.tape, h3.output, h3.size, fun k hk => h3.block k (Nat.lt_of_lt_of_le hk hb) (fun e => by have := (h.lt k e.symm).1; omega)⟩

theorem wpList_append_any {P : Program} {w : World} {ops : Array Oper} {rest : List Oper} {o : Oper} {a : Act} {Q : Exit → Act → World → Prop} (hgd : o.guard = none) (s x : Operand) (t tn : TypeId)
    (ho : o.op = .call { callee := .builtin .append, args := #[s, x], argTypes := #[t, tn] }) (vs vx : Value) (hs : a.eval s = vs) (hx : a.eval x = vx)
    (R : Value → World → Prop) (hr : ∃ v' w', (Builtin.append_ #[t, tn] o.type #[vs, vx]).run P w = .ok v' w' ∧ R v' w')
    (h : ∀ v' w', R v' w' → wpList P ops Q rest (a.put o.dst v') w') : wpList P ops Q (o :: rest) a w := by
  obtain ⟨v', w', hr, h2⟩ := hr
  exact Lib.wpList_append_run w hgd s x t tn ho vs vx hs hx v' w' hr (h v' w' h2)
end Go.Proofs.Ytbacakblboodeaa
