/- Worlds, routes and visits as they lie in memory. -/
import Derived.Test.YtbacakblboodeaaLoadS
import Derived.Test.YtbacakblboodeaaAreas
import Derived.Test.YtbacakblboodeaaMaths
namespace Go.Proofs.Ytbacakblboodeaa
open Go.RowKit
set_option linter.unusedVariables false

/-- a world by value, and what its rows hold -/
structure Wd where
  N : Int
  dA : Option Addr
  dm : Nat
  dc : Nat
  D : List Int
  tA : Option Addr
  tm : Nat
  tc : Nat
  T : List Int
  A : Option Addr
  m : Nat
  c : Nat
  os : List Ld.O
  B : Option Addr
  k : Nat
  d : Nat
  ts : List Ld.T
/-- a route by value -/
structure Rd where
  tr : Int
  sA : Option Addr
  sm : Nat
  sc : Nat
  st : List Int
def Wd.cells (x : Wd) : Array Value := #[.int .i64 x.N, .slice x.dA x.dm x.dc, .slice x.tA x.tm x.tc, .slice x.A x.m x.c, .slice x.B x.k x.d]
def Rd.cells (r : Rd) : Array Value := #[.int .i64 r.tr, .slice r.sA r.sm r.sc]
structure WAt (w : World) (x : Wd) : Prop where
  ar : AreaAt w x.dA x.dm x.D x.tA x.tm x.T
  n : x.N ≤ 9223372036854775807
  ml : x.os.length = x.m
  m2 : x.m ≤ 1000
  kl : x.ts.length = x.k
  k2 : x.k ≤ 1000
  os : OrdersAt w x.A x.os
  ts : TrucksAt w x.B x.ts
structure RAt (w : World) (r : Rd) : Prop where
  sl : r.st.length = r.sm
  s2 : r.sm ≤ 1000
  st : IntsAt w r.sA r.st
theorem WAt.below {w w' : World} {x : Wd} (h : WAt w x) (hb : Below w.heap.size w w') : WAt w' x := ⟨h.ar.below hb, h.n, h.ml, h.m2, h.kl, h.k2, h.os.below hb, h.ts.below hb⟩
theorem RAt.below {w w' : World} {r : Rd} (h : RAt w r) (hb : Below w.heap.size w w') : RAt w' r := ⟨h.sl, h.s2, h.st.below hb⟩

/-- a world in a box of its own -/
structure WX (w : World) (b : Nat) (x : Wd) : Prop where
  box : Box w b x.cells 28
  at_ : WAt w x
theorem WX.below {w w' : World} {b : Nat} {x : Wd} (h : WX w b x) (hb : Below w.heap.size w w') : WX w' b x := ⟨h.box.below hb, h.at_.below hb⟩
theorem WX.new {w : World} {x : Wd} (h : WAt w x) : WX (w.alloc (.cells #[.int .i64 x.N, .slice x.dA x.dm x.dc, .slice x.tA x.tm x.tc, .slice x.A x.m x.c, .slice x.B x.k x.d] 28)) w.heap.size x := ⟨Box.new w _ _, h.below (below_alloc _ _)⟩
theorem WX.c0 {w : World} {b : Nat} {x : Wd} (h : WX w b x) : w.cell? ⟨b, 0, none⟩ = some (.int .i64 x.N) := h.box.cell 0 _ rfl
theorem WX.c1 {w : World} {b : Nat} {x : Wd} (h : WX w b x) : w.cell? ⟨b, 1, none⟩ = some (.slice x.dA x.dm x.dc) := h.box.cell 1 _ rfl
theorem WX.c2 {w : World} {b : Nat} {x : Wd} (h : WX w b x) : w.cell? ⟨b, 2, none⟩ = some (.slice x.tA x.tm x.tc) := h.box.cell 2 _ rfl
theorem WX.c3 {w : World} {b : Nat} {x : Wd} (h : WX w b x) : w.cell? ⟨b, 3, none⟩ = some (.slice x.A x.m x.c) := h.box.cell 3 _ rfl
theorem WX.c4 {w : World} {b : Nat} {x : Wd} (h : WX w b x) : w.cell? ⟨b, 4, none⟩ = some (.slice x.B x.k x.d) := h.box.cell 4 _ rfl
structure RX (w : World) (b : Nat) (r : Rd) : Prop where
  box : Box w b r.cells 78
  at_ : RAt w r
theorem RX.below {w w' : World} {b : Nat} {r : Rd} (h : RX w b r) (hb : Below w.heap.size w w') : RX w' b r := ⟨h.box.below hb, h.at_.below hb⟩
theorem RX.new {w : World} {r : Rd} (h : RAt w r) : RX (w.alloc (.cells #[.int .i64 r.tr, .slice r.sA r.sm r.sc] 78)) w.heap.size r := ⟨Box.new w _ _, h.below (below_alloc _ _)⟩
theorem RX.c0 {w : World} {b : Nat} {r : Rd} (h : RX w b r) : w.cell? ⟨b, 0, none⟩ = some (.int .i64 r.tr) := h.box.cell 0 _ rfl
theorem RX.c1 {w : World} {b : Nat} {r : Rd} (h : RX w b r) : w.cell? ⟨b, 1, none⟩ = some (.slice r.sA r.sm r.sc) := h.box.cell 1 _ rfl

/-- visits as they lie -/
def VisAt (w : World) (A : Option Addr) (l : List Rt.V) : Prop := IntsAt w A (l.flatMap Rt.V.ints)
theorem VisAt.below {w w' : World} {A : Option Addr} {l : List Rt.V} (h : VisAt w A l) (hb : Below w.heap.size w w') : VisAt w' A l := IntsAt.below h hb
structure VAt (w : World) (a : Addr) (v : Rt.V) : Prop where
  c0 : w.cell? a = some (.int .i64 v.order)
  c1 : w.cell? ⟨a.block, a.off + 1, none⟩ = some (.int .i64 v.arrive)
  c2 : w.cell? ⟨a.block, a.off + 2, none⟩ = some (.int .i64 v.start)
  c3 : w.cell? ⟨a.block, a.off + 3, none⟩ = some (.int .i64 v.leave)
theorem VisAt.at_ {w : World} {A : Option Addr} {l : List Rt.V} (h : VisAt w A l) {k : Nat} {v : Rt.V} (hv : l[k]? = some v) : ∃ ad, A = some ad ∧ VAt w (ad.add (k * 4)) v := by
  obtain ⟨ad, e, hc⟩ := row_cell Rt.vints_len h hv (by omega)
  have g : ∀ (j : Nat) (z : Int), 0 < j → v.ints[j]? = some z → w.cell? ⟨(ad.add (k * 4)).block, (ad.add (k * 4)).off + j, none⟩ = some (.int .i64 z) := fun j z hj hz => by rw [← add_field _ j hj]; exact hc j z hz
  refine ⟨ad, e, ?_, g 1 _ (by omega) rfl, g 2 _ (by omega) rfl, g 3 _ (by omega) rfl⟩
  have := hc 0 v.order rfl
  rwa [add_plus, Nat.add_zero] at this
end Go.Proofs.Ytbacakblboodeaa
