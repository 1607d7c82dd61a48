/- Orders and trucks as they lie in memory: rows of eight and of seven numbers. -/
import Derived.Test.YtbacakblboodeaaLoadMoney
import Derived.Test.YtbacakblboodeaaMaths
namespace Go.Proofs.Ytbacakblboodeaa
open Go.RowKit
set_option linter.unusedVariables false

theorem add_plus (x : Addr) (i j : Nat) : (x.add i).add j = x.add (i + j) := by
  unfold Addr.add
  by_cases hi : i = 0
  · subst hi
    simp
  · by_cases hj : j = 0
    · subst hj
      simp [hi]
    · simp [hi, hj, Nat.add_assoc]
theorem add_field (x : Addr) (i : Nat) (h : 0 < i) : x.add i = ⟨x.block, x.off + i, none⟩ := by unfold Addr.add; rw [if_neg (by omega)]

theorem below_more {w W : World} (h : Below w.heap.size w W) (o : Obj) : Below w.heap.size w (W.alloc o) := below_next h (below_alloc _ _)

theorem oints_len (o : Ld.O) : o.ints.length = 8 := rfl
theorem tints_len (t : Ld.T) : t.ints.length = 7 := rfl

def OrdersAt (w : World) (A : Option Addr) (l : List Ld.O) : Prop := IntsAt w A (l.flatMap Ld.O.ints)
def TrucksAt (w : World) (A : Option Addr) (l : List Ld.T) : Prop := IntsAt w A (l.flatMap Ld.T.ints)
theorem OrdersAt.below {w w' : World} {A : Option Addr} {l : List Ld.O} (h : OrdersAt w A l) (hb : Below w.heap.size w w') : OrdersAt w' A l := IntsAt.below h hb
theorem TrucksAt.below {w w' : World} {A : Option Addr} {l : List Ld.T} (h : TrucksAt w A l) (hb : Below w.heap.size w w') : TrucksAt w' A l := IntsAt.below h hb

/-- one number of a row of records -/
theorem row_cell {α : Type} {f : α → List Int} {c : Nat} (hf : ∀ x, (f x).length = c) {w : World} {A : Option Addr} {l : List α} (h : IntsAt w A (l.flatMap f)) {k : Nat} {x : α} (hx : l[k]? = some x) (hc : 0 < c) :
    ∃ ad, A = some ad ∧ ∀ (j : Nat) (z : Int), (f x)[j]? = some z → w.cell? ((ad.add (k * c)).add j) = some (.int .i64 z) := by
  have h0 : ∃ z, (f x)[0]? = some z := ⟨(f x)[0]'(by rw [hf]; exact hc), List.getElem?_eq_getElem (by rw [hf]; exact hc)⟩
  obtain ⟨z0, hz0⟩ := h0
  obtain ⟨ad, e, _⟩ := h (k * c + 0) z0 (by rw [Ld.flat_at f c hf l k x 0 hc hx]; exact hz0)
  refine ⟨ad, e, fun j z hz => ?_⟩
  have hj : j < c := by have := (List.getElem?_eq_some_iff.1 hz).1; rw [hf] at this; exact this
  obtain ⟨ad', e', hcl⟩ := h (k * c + j) z (by rw [Ld.flat_at f c hf l k x j hj hx]; exact hz)
  rw [e] at e'
  obtain rfl := Option.some.inj e'
  rw [add_plus]
  exact hcl

structure OAt (w : World) (a : Addr) (o : Ld.O) : Prop where
  c0 : w.cell? a = some (.int .i64 o.id)
  c1 : w.cell? ⟨a.block, a.off + 1, none⟩ = some (.int .i64 o.owner)
  c2 : w.cell? ⟨a.block, a.off + 2, none⟩ = some (.int .i64 o.node)
  c3 : w.cell? ⟨a.block, a.off + 3, none⟩ = some (.int .i64 o.weight)
  c4 : w.cell? ⟨a.block, a.off + 4, none⟩ = some (.int .i64 o.volume)
  c5 : w.cell? ⟨a.block, a.off + 5, none⟩ = some (.int .i64 o.frm)
  c6 : w.cell? ⟨a.block, a.off + 6, none⟩ = some (.int .i64 o.to)
  c7 : w.cell? ⟨a.block, a.off + 7, none⟩ = some (.int .i64 o.service)
structure TAt (w : World) (a : Addr) (t : Ld.T) : Prop where
  c0 : w.cell? a = some (.int .i64 t.id)
  c1 : w.cell? ⟨a.block, a.off + 1, none⟩ = some (.int .i64 t.weight)
  c2 : w.cell? ⟨a.block, a.off + 2, none⟩ = some (.int .i64 t.volume)
  c3 : w.cell? ⟨a.block, a.off + 3, none⟩ = some (.int .i64 t.start)
  c4 : w.cell? ⟨a.block, a.off + 4, none⟩ = some (.int .i64 t.fin)
  c5 : w.cell? ⟨a.block, a.off + 5, none⟩ = some (.int .i64 t.fixed)
  c6 : w.cell? ⟨a.block, a.off + 6, none⟩ = some (.int .i64 t.rate)
theorem OrdersAt.at_ {w : World} {A : Option Addr} {l : List Ld.O} (h : OrdersAt w A l) {k : Nat} {o : Ld.O} (ho : l[k]? = some o) : ∃ ad, A = some ad ∧ OAt w (ad.add (k * 8)) o := by
  obtain ⟨ad, e, hc⟩ := row_cell oints_len h ho (by omega)
  have g : ∀ (j : Nat) (z : Int), 0 < j → o.ints[j]? = some z → w.cell? ⟨(ad.add (k * 8)).block, (ad.add (k * 8)).off + j, none⟩ = some (.int .i64 z) := fun j z hj hz => by rw [← add_field _ j hj]; exact hc j z hz
  refine ⟨ad, e, ?_, g 1 _ (by omega) rfl, g 2 _ (by omega) rfl, g 3 _ (by omega) rfl, g 4 _ (by omega) rfl, g 5 _ (by omega) rfl, g 6 _ (by omega) rfl, g 7 _ (by omega) rfl⟩
  have := hc 0 o.id rfl
  rwa [add_plus, Nat.add_zero] at this
theorem TrucksAt.at_ {w : World} {A : Option Addr} {l : List Ld.T} (h : TrucksAt w A l) {k : Nat} {t : Ld.T} (ht : l[k]? = some t) : ∃ ad, A = some ad ∧ TAt w (ad.add (k * 7)) t := by
  obtain ⟨ad, e, hc⟩ := row_cell tints_len h ht (by omega)
  have g : ∀ (j : Nat) (z : Int), 0 < j → t.ints[j]? = some z → w.cell? ⟨(ad.add (k * 7)).block, (ad.add (k * 7)).off + j, none⟩ = some (.int .i64 z) := fun j z hj hz => by rw [← add_field _ j hj]; exact hc j z hz
  refine ⟨ad, e, ?_, g 1 _ (by omega) rfl, g 2 _ (by omega) rfl, g 3 _ (by omega) rfl, g 4 _ (by omega) rfl, g 5 _ (by omega) rfl, g 6 _ (by omega) rfl⟩
  have := hc 0 t.id rfl
  rwa [add_plus, Nat.add_zero] at this

/-- spans as they lie -/
structure SAt (w : World) (a : Addr) (s : Int × Int × Int) : Prop where
  c0 : w.cell? a = some (.int .i64 s.1)
  c1 : w.cell? ⟨a.block, a.off + 1, none⟩ = some (.int .i64 s.2.1)
  c2 : w.cell? ⟨a.block, a.off + 2, none⟩ = some (.int .i64 s.2.2)
theorem spans_at {w : World} {A : Option Addr} {l : List (Int × Int × Int)} (h : IntsAt w A (Ld.flat3 l)) {k : Nat} {s : Int × Int × Int} (hs : l[k]? = some s) : ∃ ad, A = some ad ∧ SAt w (ad.add (k * 3)) s := by
  obtain ⟨ad, e, hc⟩ := row_cell (f := fun s : Int × Int × Int => [s.1, s.2.1, s.2.2]) (c := 3) (fun _ => rfl) h hs (by omega)
  have g : ∀ (j : Nat) (z : Int), 0 < j → [s.1, s.2.1, s.2.2][j]? = some z → w.cell? ⟨(ad.add (k * 3)).block, (ad.add (k * 3)).off + j, none⟩ = some (.int .i64 z) := fun j z hj hz => by rw [← add_field _ j hj]; exact hc j z hz
  refine ⟨ad, e, ?_, g 1 _ (by omega) rfl, g 2 _ (by omega) rfl⟩
  have := hc 0 s.1 rfl
  rwa [add_plus, Nat.add_zero] at this

/-- a record by value, and the cells of its box -/
def oV (o : Ld.O) : Value := .agg #[.int .i64 o.id, .int .i64 o.owner, .int .i64 o.node, .int .i64 o.weight, .int .i64 o.volume, .int .i64 o.frm, .int .i64 o.to, .int .i64 o.service]
def tV (t : Ld.T) : Value := .agg #[.int .i64 t.id, .int .i64 t.weight, .int .i64 t.volume, .int .i64 t.start, .int .i64 t.fin, .int .i64 t.fixed, .int .i64 t.rate]
end Go.Proofs.Ytbacakblboodeaa
