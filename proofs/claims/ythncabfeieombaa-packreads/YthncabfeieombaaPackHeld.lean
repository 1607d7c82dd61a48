/- What the laws on package pack hold while they call. -/
import Derived.Test.YthncabfeieombaaPackOpen
namespace Go.Proofs.Ythncabfeieombaa
open Go.RowKit

theorem lw_write (s : ByteArray) (A : Option Addr) (n c : Nat) (l : List Pk.V) (q : Nat) (b : Pk.Bs) (hr : Pk.wres (bs s) l = (q, b)) (k : Nat) (hk : b.length = k) (w : World) (hs : s.size ≤ maxLen) (hn : l.length = n) (hc : n ≤ maxLen)
    (hl : ValsIn w w.heap.size A l) (ht : ∀ v ∈ l, v.2.size ≤ maxLen) :
    Calls Try.prog 9 #[.string s, .slice A n c] w fun e w' => ∃ A' c', e = .returned (.tuple #[.slice A' k c', .int .i64 (q : Int)]) ∧ k ≤ c' ∧ c' ≤ maxLen ∧ BytesIn w' w'.heap.size A' b ∧ Below w.heap.size w w' := by
  subst hk
  refine (write_any s A n c l w hs hn hc hl ht).mono ?_
  rintro e w' ⟨v, rfl, ho, hbl⟩
  rw [hr] at ho ⊢
  obtain ⟨A', c', rfl, h1, h2, h3, _⟩ := ownsRow_slice ho
  exact ⟨A', c', rfl, h1, h2, h3, hbl⟩

theorem lw_own (A : Option Addr) (n c : Nat) (l : List Pk.V) (w : World) (hn : l.length = n) (hlen : n ≤ 100000) (hl : ValsIn w w.heap.size A l) :
    Calls Try.prog 11 #[.slice A n c] w fun e w' => ∃ A' c', e = .returned (.slice A' n c') ∧ n ≤ c' ∧ c' ≤ maxLen ∧ ValsIn w' w'.heap.size A' l ∧ Below w.heap.size w w' := by
  refine (own_any A n c l w hn hlen hl).mono ?_
  rintro e w' ⟨v, rfl, ho, hbl⟩
  obtain ⟨A', c', rfl, h1, h2, h3, _⟩ := ownsRow_slice ho
  exact ⟨A', c', rfl, h1, h2, h3, hbl⟩

theorem lw_same (A B : Option Addr) (n m c d : Nat) (a b : List Pk.V) (w : World) (hn : a.length = n) (hm : b.length = m) (hn' : n ≤ maxLen) (hm' : m ≤ maxLen) (ha : ValsIn w w.heap.size A a) (hb : ValsIn w w.heap.size B b) :
    Calls Try.prog 17 #[.slice A n c, .slice B m d] w fun e w' => e = .returned (.bool (decide (a = b))) ∧ Below w.heap.size w w' :=
  (same_any A B n m c d a b w hn hm hn' hm' ha hb).mono fun _ _ ⟨he, _, hq⟩ => ⟨he, hq ▸ ⟨rfl, rfl, rfl, Nat.le_refl _, fun _ _ => rfl⟩⟩

theorem lw_bytes (A B : Option Addr) (n m c d : Nat) (a b : Pk.Bs) (w : World) (hn : a.length = n) (hm : b.length = m) (hn' : n ≤ maxLen) (hm' : m ≤ maxLen) (ha : BytesIn w w.heap.size A a) (hb : BytesIn w w.heap.size B b) :
    Calls Try.prog 12 #[.slice A n c, .slice B m d] w fun e w' => e = .returned (.bool (decide (a = b))) ∧ Below w.heap.size w w' :=
  (bytes_any A B n m c d a b w hn hm hn' hm' ha hb).mono fun _ _ ⟨he, _, hq⟩ => ⟨he, hq ▸ ⟨rfl, rfl, rfl, Nat.le_refl _, fun _ _ => rfl⟩⟩

theorem CellsIn.on {w W : World} {A : Option Addr} {xs : List Value} (h : CellsIn w w.heap.size A xs) (hb : Below w.heap.size w W) : CellsIn W W.heap.size A xs := (h.below hb (Nat.le_refl _)).more hb.size
theorem bel_on {w W W' : World} (h : Below w.heap.size w W) (hb : Below W.heap.size W W') : Below w.heap.size w W' := h.trans (hb.mono h.size)

theorem okVals_small (ls : Pk.Bs) : ∀ (l : List Pk.V) (i : Nat), Pk.okVals ls i l = true → ∀ v ∈ l, v.2.size ≤ 1000 := by
  intro l
  induction l with
  | nil => intro i _ v hv; cases hv
  | cons x l ih =>
    intro i h v hv
    rw [Pk.okVals, Bool.and_eq_true] at h
    rcases List.mem_cons.1 hv with rfl | hv
    · have h1 := h.1
      obtain ⟨n, t⟩ := v
      by_cases hc : Pk.letAt ls i = 110
      · rw [hc, isVal_n] at h1
        simp only [Bool.and_eq_true, decide_eq_true_eq] at h1
        simp only
        omega
      · rw [isVal_t _ n t hc] at h1
        simp only [Bool.and_eq_true, decide_eq_true_eq] at h1
        exact h1.2
    · exact ih (i + 1) h.2 v hv

theorem wres_small {f : Pk.Bs} {l : List Pk.V} {b : Pk.Bs} (h : Pk.wres f l = (0, b)) : l.length ≤ 200 ∧ ∀ v ∈ l, v.2.size ≤ maxLen := by
  obtain ⟨_, _, ho, hl, _⟩ := Pk.wres_ok h
  exact ⟨hl, fun v hv => by have := okVals_small _ _ _ ho v hv; unfold maxLen; omega⟩

end Go.Proofs.Ythncabfeieombaa
