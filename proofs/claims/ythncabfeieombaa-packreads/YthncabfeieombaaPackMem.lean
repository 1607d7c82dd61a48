/- What of memory a call of package pack leans on: bytes and values that lie there. -/
import Derived.Test.YthncabfeieombaaPackStr
import Derived.Maps.AppendAt
import Derived.Deep.AppendLies
import Derived.Lib.AppendStr
namespace Go.Proofs.Ythncabfeieombaa
open Go.RowKit

def bv (b : UInt8) : Value := .int .u8 (b.toNat : Int)
/-- a value's two cells -/
def vc (v : Pk.V) : List Value := [.int .i64 v.1, .string v.2]
def vcs (l : List Pk.V) : List Value := l.flatMap vc

/-- Cells that lie from an address on, in a block below B. -/
def CellsIn (w : World) (B : Nat) (A : Option Addr) (xs : List Value) : Prop :=
  ∀ (k : Nat) (u : Value), xs[k]? = some u → ∃ ad, A = some ad ∧ ad.block < B ∧ w.cell? (ad.add k) = some u

def BytesIn (w : World) (B : Nat) (A : Option Addr) (l : Pk.Bs) : Prop := CellsIn w B A (l.map bv)
def ValsIn (w : World) (B : Nat) (A : Option Addr) (l : List Pk.V) : Prop := CellsIn w B A (vcs l)

theorem block_add (a : Addr) (n : Nat) : (a.add n).block = a.block := by unfold Addr.add; split <;> rfl
theorem add_add' (a : Addr) (i j : Nat) : (a.add i).add j = a.add (i + j) := by
  unfold Addr.add
  by_cases hi : i = 0 <;> by_cases hj : j = 0 <;> simp [hi, hj, Nat.add_assoc]

theorem add_one' (x : Addr) : x.add 1 = ⟨x.block, x.off + 1, none⟩ := rfl

theorem CellsIn.keep {w w' : World} {B : Nat} {A : Option Addr} {xs : List Value} (h : CellsIn w B A xs) (hk : ∀ p : Addr, p.block < B → w'.cell? p = w.cell? p) : CellsIn w' B A xs := by
  intro k u hu
  obtain ⟨ad, e, hb, hc⟩ := h k u hu
  exact ⟨ad, e, hb, (hk _ (by rw [block_add]; exact hb)).trans hc⟩
theorem CellsIn.below {w w' : World} {B B' : Nat} {A : Option Addr} {xs : List Value} (h : CellsIn w B A xs) (hb : Below B' w w') (hB : B ≤ B') : CellsIn w' B A xs := h.keep fun _ hp => hb.cell (by omega)
theorem CellsIn.more {w : World} {B B' : Nat} {A : Option Addr} {xs : List Value} (h : CellsIn w B A xs) (hB : B ≤ B') : CellsIn w B' A xs := by
  intro k u hu
  obtain ⟨ad, e, hb, hc⟩ := h k u hu
  exact ⟨ad, e, by omega, hc⟩
theorem CellsIn.nil (w : World) (B : Nat) (A : Option Addr) : CellsIn w B A [] := by intro k u hu; simp at hu
theorem CellsIn.take {w : World} {B : Nat} {A : Option Addr} {xs : List Value} (h : CellsIn w B A xs) (n : Nat) : CellsIn w B A (xs.take n) := by
  intro k u hu
  rw [List.getElem?_take] at hu
  split at hu
  · exact h k u hu
  · simp at hu

theorem ownsRow_slice {w : World} {base : Nat} {e : TypeId} {size n : Nat} {v : Value} {xs : List Value} (h : w.ownsRow base e size v n xs) :
    ∃ A c, v = .slice A n c ∧ n ≤ c ∧ c ≤ maxLen ∧ CellsIn w w.heap.size A xs ∧ (A = none → c = 0) := by
  rcases h.2 with ⟨rfl, rfl⟩ | ⟨g, cap, cur, rfl, _, hg, hnc, hcm, _⟩
  · have : xs = [] := List.eq_nil_of_length_eq_zero (by simpa using h.1)
    subst this
    exact ⟨none, 0, rfl, Nat.le_refl _, by decide, CellsIn.nil _ _ _, fun _ => rfl⟩
  · refine ⟨_, cap, rfl, hnc, hcm, fun k u hu => ⟨_, rfl, (Array.getElem?_eq_some_iff.1 hg).1, h.cells (g := g) rfl k u hu⟩, fun h => by cases h⟩

theorem grown_trans {a b c : World} {r r' : Option Nat} (h1 : a.grownBy b r) (h2 : b.grownBy c r') (hr : r' = r ∨ ∀ k, r' = some k → a.heap.size ≤ k) : a.grownBy c r := by
  refine ⟨h2.os.trans h1.os, h2.tape.trans h1.tape, h2.output.trans h1.output, Nat.le_trans h1.size h2.size, fun k hk hne => ?_⟩
  refine (h2.block k (Nat.lt_of_lt_of_le hk h1.size) ?_).trans (h1.block k hk hne)
  rcases hr with rfl | hr
  · exact hne
  · intro e
    have := hr k e.symm
    omega
theorem grown_refl (a : World) (r : Option Nat) : a.grownBy a r := ⟨rfl, rfl, rfl, Nat.le_refl _, fun _ _ _ => rfl⟩
theorem grown_alloc (a : World) (o : Obj) (r : Option Nat) : a.grownBy (a.alloc o) r := ⟨rfl, rfl, rfl, by simp, fun k hk _ => Below.heap_alloc a o k hk⟩
theorem grown_below {a b : World} {r : Option Nat} {B : Nat} (h : a.grownBy b r) (hB : B ≤ a.heap.size) (hr : ∀ k, r = some k → B ≤ k) : Below B a b := (Below.refl _ _).grown h hB hr

/-- rows of unlike types are unlike blocks -/
theorem own_ne {w : World} {base : Nat} {e t : TypeId} {size n g : Nat} {v : Value} {xs : List Value} {cs : Array Value} {fr : Nat × Nat} (h : w.ownsRow base e size v n xs) (hg : w.heap[g]? = some (.cells cs t fr)) (hne : e ≠ t) : some g ≠ v.ownBlock := by
  rcases h.2 with ⟨rfl, _⟩ | ⟨g', cap, cur, rfl, _, hh, _⟩
  · simp [Value.ownBlock]
  · intro he
    have e1 : g = g' := by simpa [Value.ownBlock] using he
    subst e1
    rw [hg] at hh
    injection hh with hh
    injection hh with _ ht
    exact hne ht.symm

theorem vcs_length (l : List Pk.V) : (vcs l).length = l.length * 2 := by
  induction l with
  | nil => rfl
  | cons v l ih => unfold vcs at ih ⊢; rw [List.flatMap_cons, List.length_append, ih]; simp [vc]; omega

theorem vcs_at (l : List Pk.V) (k : Nat) (v : Pk.V) (h : l[k]? = some v) : (vcs l)[k * 2]? = some (.int .i64 v.1) ∧ (vcs l)[k * 2 + 1]? = some (.string v.2) := by
  induction l generalizing k with
  | nil => simp at h
  | cons x l ih =>
    unfold vcs at ih ⊢
    rw [List.flatMap_cons]
    cases k with
    | zero => simp at h; subst h; simp [vc]
    | succ k =>
      simp at h
      obtain ⟨h1, h2⟩ := ih k h
      have e1 : (k + 1) * 2 = k * 2 + 2 := by omega
      rw [e1]
      simp only [vc, List.cons_append, List.nil_append, List.getElem?_cons_succ]
      exact ⟨h1, h2⟩

theorem ValsIn.at_ {w : World} {B : Nat} {A : Option Addr} {l : List Pk.V} (h : ValsIn w B A l) {k : Nat} {v : Pk.V} (hv : l[k]? = some v) :
    ∃ ad, A = some ad ∧ ad.block < B ∧ w.cell? (ad.add (k * 2)) = some (.int .i64 v.1) ∧ w.cell? ⟨(ad.add (k * 2)).block, (ad.add (k * 2)).off + 1, none⟩ = some (.string v.2) := by
  obtain ⟨h1, h2⟩ := vcs_at l k v hv
  obtain ⟨ad, e, hb, hc⟩ := h _ _ h1
  obtain ⟨ad', e', _, hc'⟩ := h _ _ h2
  subst e
  obtain rfl := Option.some.inj e'
  exact ⟨ad, rfl, hb, hc, by rw [← add_one', add_add']; exact hc'⟩

theorem BytesIn.at_ {w : World} {B : Nat} {A : Option Addr} {l : Pk.Bs} (h : BytesIn w B A l) {k : Nat} {b : UInt8} (hb : l[k]? = some b) :
    ∃ ad, A = some ad ∧ ad.block < B ∧ w.cell? (ad.add k) = some (.int .u8 (b.toNat : Int)) :=
  h k (bv b) (by rw [List.getElem?_map, hb]; rfl)

theorem some_at {α : Type} (l : List α) (k : Nat) (h : k < l.length) : ∃ x, l[k]? = some x := ⟨l[k], List.getElem?_eq_getElem h⟩

theorem info_parts3 {i : Option TypeInfo} {z : Value} {s b : Nat} (h : i.map (fun i => (i.zero, i.size, i.bytes)) = some (some z, s, b)) : ∃ j, i = some j ∧ j.zero = some z ∧ j.size = s ∧ j.bytes = b := by
  cases i with
  | none => simp at h
  | some j => simp at h; exact ⟨j, rfl, h.1, h.2.1, h.2.2⟩

theorem byte_info : (Try.prog.info? 5).map (fun i => (i.zero, i.size, i.bytes)) = some (some (.int .u8 0), 1, 1) := by kernel_rfl
theorem val_info : (Try.prog.info? 34).map (fun i => (i.zero, i.size, i.bytes)) = some (some (.agg #[.int .i64 0, .string ⟨#[]⟩]), 2, 24) := by kernel_rfl
theorem rval_info : (Try.prog.info? 51).map (fun i => (i.zero, i.size, i.bytes)) = some (some (.agg #[.int .i64 0, .string ⟨#[]⟩]), 2, 24) := by kernel_rfl

end Go.Proofs.Ythncabfeieombaa
