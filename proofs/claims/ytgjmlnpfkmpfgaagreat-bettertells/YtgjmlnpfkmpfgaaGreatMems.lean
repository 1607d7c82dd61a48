/- Texts joined: What of memory a call of package area leans on: rows of numbers that lie there. Contracts of what package load takes of package money: Sum and what it calls. Orders and trucks as they lie in memory: rows of eight and of seven numbers. Contracts of package load: check, Order, Truck. Contracts of the document's own money. -/
import Derived.Test.YtgjmlnpfkmpfgaaGreatProg
import Derived.Test.YtgjmlnpfkmpfgaaGreatMaths
import Derived.WalkKit
import Derived.WalkSpells
import Derived.WalkLawsBesides
import Derived.Lib.Hide
import Derived.IntWalk
import Derived.Maps.AppendAt
import Derived.Deep.AppendLies
import Derived.StillTailTactics
import Derived.Deep.LoopGhost
import Derived.Deep.QuietTactic
import Derived.BigQuiet
import Derived.Deep.RegionHeld3
import Derived.Deep.DrawnRows
section
/-! What of memory a call of package area leans on: rows of numbers that lie there. -/
namespace Go.Proofs.YtgjmlnpfkmpfgaaGreat
open Go.RowKit
set_option linter.unusedVariables false

/-- these numbers lie from that address on -/
def IntsAt (w : World) (A : Option Addr) (zs : List Int) : Prop :=
  ∀ (k : Nat) (z : Int), zs[k]? = some z → ∃ ad, A = some ad ∧ w.cell? (ad.add k) = some (.int .i64 z)

theorem IntsAt.nil (w : World) (A : Option Addr) : IntsAt w A [] := fun k z h => by simp at h
theorem lt_of_cell {w : World} {p : Addr} {v : Value} (h : w.cell? p = some v) : p.block < w.heap.size := World.block_lt_of_cell? w p h
theorem IntsAt.below {w w' : World} {A : Option Addr} {zs : List Int} (h : IntsAt w A zs) (hb : Below w.heap.size w w') : IntsAt w' A zs := by
  intro k z hz
  obtain ⟨ad, e, hc⟩ := h k z hz
  exact ⟨ad, e, by rw [hb.cell (p := ad.add k) (lt_of_cell hc)]; exact hc⟩
theorem IntsAt.drew {w : World} {A : Option Addr} {zs : List Int} (h : IntsAt w A zs) : IntsAt w.drew A zs := h
theorem IntsAt.alloc {w : World} {A : Option Addr} {zs : List Int} (h : IntsAt w A zs) (o : Obj) : IntsAt (w.alloc o) A zs := h.below ((Below.refl _ _).alloc (Nat.le_refl _) o)
theorem below_next {w W W' : World} (h : Below w.heap.size w W) (k : Below W.heap.size W W') : Below w.heap.size w W' := h.trans (k.mono h.size)
theorem below_alloc (w : World) (o : Obj) : Below w.heap.size w (w.alloc o) := (Below.refl _ _).alloc (Nat.le_refl _) o
theorem below_box {w W : World} {o : Obj} (h : Below (w.alloc o).heap.size (w.alloc o) W) : Below w.heap.size w W := below_next (below_alloc w o) h
theorem heap_new (w : World) (cs : Array Value) (t : TypeId) : (w.alloc (.cells cs t)).heap[w.heap.size]? = some (.cells cs t (0, 0)) := heap_alloc_new w _

/-- a block known whole -/
def Box (w : World) (b : Nat) (cs : Array Value) (t : TypeId) : Prop := w.heap[b]? = some (.cells cs t (0, 0))
theorem Box.new (w : World) (cs : Array Value) (t : TypeId) : Box (w.alloc (.cells cs t)) w.heap.size cs t := heap_new w cs t
theorem Box.lt {w : World} {b : Nat} {cs : Array Value} {t : TypeId} (h : Box w b cs t) : b < w.heap.size := (Array.getElem?_eq_some_iff.1 h).1
theorem Box.below {w w' : World} {b : Nat} {cs : Array Value} {t : TypeId} (h : Box w b cs t) (hb : Below w.heap.size w w') : Box w' b cs t := (hb.block b h.lt).trans h
theorem Box.cell {w : World} {b : Nat} {cs : Array Value} {t : TypeId} (h : Box w b cs t) (k : Nat) (v : Value) (hv : cs[k]? = some v) : w.cell? ⟨b, k, none⟩ = some v := by rw [cell_of_row w b k _ _ _ h]; exact hv
theorem box_ints {w : World} {b : Nat} {zs : List Int} {t : TypeId} {cs : Array Value} (h : Box w b cs t) (hc : cs = (zs.map (Value.int .i64)).toArray) : IntsAt w (some ⟨b, 0, none⟩) zs := by
  intro k z hz
  refine ⟨_, rfl, ?_⟩
  rw [Addr.add_mid, Nat.zero_add, h.cell k (.int .i64 z) (by rw [hc]; simp [hz])]
end Go.Proofs.YtgjmlnpfkmpfgaaGreat
end

section
/-! Contracts of what package load takes of package money: Sum and what it calls. -/
namespace Go.Proofs.YtgjmlnpfkmpfgaaGreat
open Go.RowKit
set_option linter.unusedVariables false

theorem mlist_at {α : Type} (l : List α) (k : Nat) (h : k < l.length) : ∃ x, l[k]? = some x := ⟨l[k], List.getElem?_eq_getElem h⟩

set_option maxHeartbeats 400000 in
theorem mon_mayBe (n : Int) (w : World) :
    Calls Tryz.prog 63 #[.int .i64 n] w fun e w' => e = .returned (.bool (Grp.mayB n)) ∧ w = w' := by
  by_cases h1 : -4611686018427387903 ≤ n
  · by_cases h2 : n ≤ 4611686018427387903
    · have e : Grp.mayB n = true := (Grp.mayB_iff n).2 ⟨h1, h2⟩
      rw [e]
      go_enter Tryz.func63, Tryz.ntmps63
      go_wp2
      go_ret
      exact ⟨rfl, rfl⟩
    · have e : Grp.mayB n = false := (Grp.mayB_no n).2 (by omega)
      rw [e]
      go_enter Tryz.func63, Tryz.ntmps63
      go_wp2
      go_ret
      exact ⟨rfl, rfl⟩
  · have e : Grp.mayB n = false := (Grp.mayB_no n).2 (by omega)
    rw [e]
    go_enter Tryz.func63, Tryz.ntmps63
    go_wp2
    go_ret
    exact ⟨rfl, rfl⟩

set_option maxHeartbeats 400000 in
theorem mon_checked (n : Int) (w : World) :
    Calls Tryz.prog 102 #[.int .i64 n] w fun e w' => e = .returned (.tuple #[.int .i64 (if Grp.mayB n = true then n else 0), .int .i64 (if Grp.mayB n = true then 0 else 4)]) ∧ w = w' := by
  cases h : Grp.mayB n
  all_goals
    go_enter Tryz.func102, Tryz.ntmps102
    go_wp2_with (go_at_call 63; refine (mon_mayBe _ _).mono ?_; rintro e w' ⟨rfl, rfl⟩)
    go_ret2
    exact ⟨rfl, rfl⟩

set_option maxHeartbeats 400000 in
theorem mon_add (a b : Int) (w : World) :
    Calls Tryz.prog 64 #[.int .i64 a, .int .i64 b] w fun e w' => e = .returned (.tuple #[.int .i64 (Grp.addS a b).1, .int .i64 (Grp.addS a b).2]) ∧ w = w' := by
  cases ha : Grp.mayB a
  · have e : Grp.addS a b = (0, 1) := by unfold Grp.addS; simp [ha]
    rw [e]
    clear e
    go_enter Tryz.func64, Tryz.ntmps64
    go_wp2_with (go_at_call 63; refine (mon_mayBe _ _).mono ?_; rintro e w' ⟨rfl, rfl⟩)
    go_ret2
    exact ⟨rfl, rfl⟩
  · cases hb : Grp.mayB b
    · have e : Grp.addS a b = (0, 1) := by unfold Grp.addS; simp [hb]
      rw [e]
      clear e
      go_enter Tryz.func64, Tryz.ntmps64
      go_wp2_with (go_at_call 63; refine (mon_mayBe _ _).mono ?_; rintro e w' ⟨rfl, rfl⟩)
      go_ret2
      exact ⟨rfl, rfl⟩
    · have e : Grp.addS a b = (if Grp.mayB (a + b) = true then a + b else 0, if Grp.mayB (a + b) = true then 0 else 4) := by
        unfold Grp.addS; simp only [ha, hb, and_self, if_true]; split <;> rfl
      rw [e]
      clear e
      have ha' := (Grp.mayB_iff a).1 ha
      have hb' := (Grp.mayB_iff b).1 hb
      obtain ⟨a1, a2⟩ := ha'
      obtain ⟨b1, b2⟩ := hb'
      go_enter Tryz.func64, Tryz.ntmps64
      go_wp2_with (first | (go_at_call 63; refine (mon_mayBe _ _).mono ?_; rintro e w' ⟨rfl, rfl⟩) | (go_at_call 102; refine (mon_checked _ _).mono ?_; rintro e w' ⟨rfl, rfl⟩))
      all_goals
        go_ret2
        exact ⟨rfl, rfl⟩

set_option maxHeartbeats 1000000 in
theorem mon_sum (A : Option Addr) (c : Nat) (zs : List Int) (w : World) (hl : zs.length ≤ maxLen) (hc : IntsAt w A zs) :
    Calls Tryz.prog 36 #[.slice A zs.length c] w fun e w' => e = .returned (.tuple #[.int .i64 (Grp.sumS zs).1, .int .i64 (Grp.sumS zs).2]) ∧ w = w' := by
  unfold maxLen at hl
  have HC := Lib.hid hc
  clear hc
  go_enter Tryz.func36, Tryz.ntmps36
  go_wp2_with fail
  go_loop [13] (fun i => ∃ k : Nat, k ≤ zs.length ∧ i = .int .i64 k ∧ Hid ((zs.take k).all Grp.mayB = true)) (fun i => zs.length - (intOf i).toNat)
  case atStart => exact ⟨0, by omega, rfl, rfl⟩
  case round =>
    obtain ⟨k, hk, rfl, hall⟩ := hrel
    by_cases hlt : k < zs.length
    · obtain ⟨z, hz⟩ := mlist_at zs k hlt
      obtain ⟨ad, rfl, hcell⟩ := HC.out k z hz
      have HZ := Lib.hid hz
      clear hz
      cases hm : Grp.mayB z
      · go_wp2_with (go_at_call 63; refine (mon_mayBe _ _).mono ?_; rintro e w' ⟨rfl, rfl⟩)
        go_ret2
        exact ⟨by rw [show Grp.sumS zs = (0, 1) from by unfold Grp.sumS; rw [Grp.all_false zs k z HZ.out hm]; rfl]; rfl, rfl⟩
      · go_wp2_with (go_at_call 63; refine (mon_mayBe _ _).mono ?_; rintro e w' ⟨rfl, rfl⟩)
        go_round
        case rel => exact ⟨k + 1, by omega, by go_num, by show _ = _; rw [Grp.all_take zs k z HZ.out hall.out]; exact hm⟩
        case measure => simp [intOf]; omega
    · obtain rfl : k = zs.length := by omega
      have hall' : Hid (zs.all Grp.mayB = true) := by have := hall.out; rw [List.take_length] at this; exact this
      clear hall hlt
      go_wp2_with fail
      go_loop [6, 23] (fun s i => ∃ (k : Nat) (n : Int), k ≤ zs.length ∧ i = .int .i64 k ∧ s = .int .i64 n ∧ -4611686018427387903 ≤ n ∧ n ≤ 4611686018427387903 ∧ Hid (Grp.sumFrom 0 zs = Grp.sumFrom n (zs.drop k))) (fun _ i => zs.length - (intOf i).toNat)
      case atStart => exact ⟨0, 0, by omega, rfl, rfl, by omega, by omega, rfl⟩
      case round =>
        obtain ⟨k, n, hk, rfl, rfl, n1, n2, hs⟩ := hrel
        have es : Hid (Grp.sumS zs = Grp.sumFrom 0 zs) := by show _ = _; unfold Grp.sumS; rw [hall'.out]; rfl
        by_cases hlt : k < zs.length
        · obtain ⟨z, hz⟩ := mlist_at zs k hlt
          obtain ⟨ad, rfl, hcell⟩ := HC.out k z hz
          have hmz := Grp.all_at zs k z hz hall'.out
          have hmn : Grp.mayB n = true := (Grp.mayB_iff n).2 ⟨n1, n2⟩
          have hst := Grp.sumFrom_step n zs k z hz
          clear hz
          cases hm : Grp.mayB (n + z)
          · rw [hm] at hst
            have HST := Lib.hid hst
            have hadd := Grp.addS_full n z hmn hmz hm
            clear hst hm hmn hmz
            go_wp2_with (go_at_call 64; refine (mon_add _ _ _).mono ?_; rintro e w' ⟨rfl, rfl⟩)
            go_ret2
            exact ⟨by rw [es.out, hs.out, HST.out]; rfl, rfl⟩
          · rw [hm] at hst
            have HST := Lib.hid hst
            have hadd := Grp.addS_yes n z hmn hmz hm
            have hb := (Grp.mayB_iff _).1 hm
            obtain ⟨b1, b2⟩ := hb
            clear hst hm hmn hmz
            go_wp2_with (go_at_call 64; refine (mon_add _ _ _).mono ?_; rintro e w' ⟨rfl, rfl⟩)
            go_round
            case rel => exact ⟨k + 1, n + z, by omega, by go_num, rfl, b1, b2, by show _ = _; rw [hs.out, HST.out]; rfl⟩
            case measure => simp [intOf]; omega
        · go_wp2_with fail
          go_ret2
          exact ⟨by rw [es.out, hs.out, Grp.sumFrom_end n zs k (by omega)]; rfl, rfl⟩
end Go.Proofs.YtgjmlnpfkmpfgaaGreat
end

section
/-! Orders and trucks as they lie in memory: rows of eight and of seven numbers. -/
namespace Go.Proofs.YtgjmlnpfkmpfgaaGreat
open Go.RowKit
set_option linter.unusedVariables false

theorem add_plus (x : Addr) (i j : Nat) : (x.add i).add j = x.add (i + j) := by
  unfold Addr.add
  by_cases hi : i = 0
  · subst hi
    simp
  · by_cases hj : j = 0
    · subst hj
      simp [hi]
    · simp [hi, hj, Nat.add_assoc]
theorem add_field (x : Addr) (i : Nat) (h : 0 < i) : x.add i = ⟨x.block, x.off + i, none⟩ := by unfold Addr.add; rw [if_neg (by omega)]

theorem below_more {w W : World} (h : Below w.heap.size w W) (o : Obj) : Below w.heap.size w (W.alloc o) := below_next h (below_alloc _ _)

theorem oints_len (o : Ld.O) : o.ints.length = 8 := rfl
theorem tints_len (t : Ld.T) : t.ints.length = 7 := rfl

def OrdersAt (w : World) (A : Option Addr) (l : List Ld.O) : Prop := IntsAt w A (l.flatMap Ld.O.ints)
def TrucksAt (w : World) (A : Option Addr) (l : List Ld.T) : Prop := IntsAt w A (l.flatMap Ld.T.ints)
theorem OrdersAt.below {w w' : World} {A : Option Addr} {l : List Ld.O} (h : OrdersAt w A l) (hb : Below w.heap.size w w') : OrdersAt w' A l := IntsAt.below h hb
theorem TrucksAt.below {w w' : World} {A : Option Addr} {l : List Ld.T} (h : TrucksAt w A l) (hb : Below w.heap.size w w') : TrucksAt w' A l := IntsAt.below h hb

/-- one number of a row of records -/
theorem row_cell {α : Type} {f : α → List Int} {c : Nat} (hf : ∀ x, (f x).length = c) {w : World} {A : Option Addr} {l : List α} (h : IntsAt w A (l.flatMap f)) {k : Nat} {x : α} (hx : l[k]? = some x) (hc : 0 < c) :
    ∃ ad, A = some ad ∧ ∀ (j : Nat) (z : Int), (f x)[j]? = some z → w.cell? ((ad.add (k * c)).add j) = some (.int .i64 z) := by
  have h0 : ∃ z, (f x)[0]? = some z := ⟨(f x)[0]'(by rw [hf]; exact hc), List.getElem?_eq_getElem (by rw [hf]; exact hc)⟩
  obtain ⟨z0, hz0⟩ := h0
  obtain ⟨ad, e, _⟩ := h (k * c + 0) z0 (by rw [Ld.flat_at f c hf l k x 0 hc hx]; exact hz0)
  refine ⟨ad, e, fun j z hz => ?_⟩
  have hj : j < c := by have := (List.getElem?_eq_some_iff.1 hz).1; rw [hf] at this; exact this
  obtain ⟨ad', e', hcl⟩ := h (k * c + j) z (by rw [Ld.flat_at f c hf l k x j hj hx]; exact hz)
  rw [e] at e'
  obtain rfl := Option.some.inj e'
  rw [add_plus]
  exact hcl

structure OAt (w : World) (a : Addr) (o : Ld.O) : Prop where
  c0 : w.cell? a = some (.int .i64 o.id)
  c1 : w.cell? ⟨a.block, a.off + 1, none⟩ = some (.int .i64 o.owner)
  c2 : w.cell? ⟨a.block, a.off + 2, none⟩ = some (.int .i64 o.node)
  c3 : w.cell? ⟨a.block, a.off + 3, none⟩ = some (.int .i64 o.weight)
  c4 : w.cell? ⟨a.block, a.off + 4, none⟩ = some (.int .i64 o.volume)
  c5 : w.cell? ⟨a.block, a.off + 5, none⟩ = some (.int .i64 o.frm)
  c6 : w.cell? ⟨a.block, a.off + 6, none⟩ = some (.int .i64 o.to)
  c7 : w.cell? ⟨a.block, a.off + 7, none⟩ = some (.int .i64 o.service)
structure TAt (w : World) (a : Addr) (t : Ld.T) : Prop where
  c0 : w.cell? a = some (.int .i64 t.id)
  c1 : w.cell? ⟨a.block, a.off + 1, none⟩ = some (.int .i64 t.weight)
  c2 : w.cell? ⟨a.block, a.off + 2, none⟩ = some (.int .i64 t.volume)
  c3 : w.cell? ⟨a.block, a.off + 3, none⟩ = some (.int .i64 t.start)
  c4 : w.cell? ⟨a.block, a.off + 4, none⟩ = some (.int .i64 t.fin)
  c5 : w.cell? ⟨a.block, a.off + 5, none⟩ = some (.int .i64 t.fixed)
  c6 : w.cell? ⟨a.block, a.off + 6, none⟩ = some (.int .i64 t.rate)
theorem OrdersAt.at_ {w : World} {A : Option Addr} {l : List Ld.O} (h : OrdersAt w A l) {k : Nat} {o : Ld.O} (ho : l[k]? = some o) : ∃ ad, A = some ad ∧ OAt w (ad.add (k * 8)) o := by
  obtain ⟨ad, e, hc⟩ := row_cell oints_len h ho (by omega)
  have g : ∀ (j : Nat) (z : Int), 0 < j → o.ints[j]? = some z → w.cell? ⟨(ad.add (k * 8)).block, (ad.add (k * 8)).off + j, none⟩ = some (.int .i64 z) := fun j z hj hz => by rw [← add_field _ j hj]; exact hc j z hz
  refine ⟨ad, e, ?_, g 1 _ (by omega) rfl, g 2 _ (by omega) rfl, g 3 _ (by omega) rfl, g 4 _ (by omega) rfl, g 5 _ (by omega) rfl, g 6 _ (by omega) rfl, g 7 _ (by omega) rfl⟩
  have := hc 0 o.id rfl
  rwa [add_plus, Nat.add_zero] at this
theorem TrucksAt.at_ {w : World} {A : Option Addr} {l : List Ld.T} (h : TrucksAt w A l) {k : Nat} {t : Ld.T} (ht : l[k]? = some t) : ∃ ad, A = some ad ∧ TAt w (ad.add (k * 7)) t := by
  obtain ⟨ad, e, hc⟩ := row_cell tints_len h ht (by omega)
  have g : ∀ (j : Nat) (z : Int), 0 < j → t.ints[j]? = some z → w.cell? ⟨(ad.add (k * 7)).block, (ad.add (k * 7)).off + j, none⟩ = some (.int .i64 z) := fun j z hj hz => by rw [← add_field _ j hj]; exact hc j z hz
  refine ⟨ad, e, ?_, g 1 _ (by omega) rfl, g 2 _ (by omega) rfl, g 3 _ (by omega) rfl, g 4 _ (by omega) rfl, g 5 _ (by omega) rfl, g 6 _ (by omega) rfl⟩
  have := hc 0 t.id rfl
  rwa [add_plus, Nat.add_zero] at this

/-- spans as they lie -/
structure SAt (w : World) (a : Addr) (s : Int × Int × Int) : Prop where
  c0 : w.cell? a = some (.int .i64 s.1)
  c1 : w.cell? ⟨a.block, a.off + 1, none⟩ = some (.int .i64 s.2.1)
  c2 : w.cell? ⟨a.block, a.off + 2, none⟩ = some (.int .i64 s.2.2)
theorem spans_at {w : World} {A : Option Addr} {l : List (Int × Int × Int)} (h : IntsAt w A (Ld.flat3 l)) {k : Nat} {s : Int × Int × Int} (hs : l[k]? = some s) : ∃ ad, A = some ad ∧ SAt w (ad.add (k * 3)) s := by
  obtain ⟨ad, e, hc⟩ := row_cell (f := fun s : Int × Int × Int => [s.1, s.2.1, s.2.2]) (c := 3) (fun _ => rfl) h hs (by omega)
  have g : ∀ (j : Nat) (z : Int), 0 < j → [s.1, s.2.1, s.2.2][j]? = some z → w.cell? ⟨(ad.add (k * 3)).block, (ad.add (k * 3)).off + j, none⟩ = some (.int .i64 z) := fun j z hj hz => by rw [← add_field _ j hj]; exact hc j z hz
  refine ⟨ad, e, ?_, g 1 _ (by omega) rfl, g 2 _ (by omega) rfl⟩
  have := hc 0 s.1 rfl
  rwa [add_plus, Nat.add_zero] at this

/-- a record by value, and the cells of its box -/
def oV (o : Ld.O) : Value := .agg #[.int .i64 o.id, .int .i64 o.owner, .int .i64 o.node, .int .i64 o.weight, .int .i64 o.volume, .int .i64 o.frm, .int .i64 o.to, .int .i64 o.service]
def tV (t : Ld.T) : Value := .agg #[.int .i64 t.id, .int .i64 t.weight, .int .i64 t.volume, .int .i64 t.start, .int .i64 t.fin, .int .i64 t.fixed, .int .i64 t.rate]
end Go.Proofs.YtgjmlnpfkmpfgaaGreat
end

section
/-! Contracts of package load: check, Order, Truck. -/
namespace Go.Proofs.YtgjmlnpfkmpfgaaGreat
open Go.RowKit
set_option linter.unusedVariables false

set_option maxHeartbeats 1000000 in
theorem check_sp (A : Option Addr) (m c : Nat) (l : List (Int × Int × Int)) (w : World) (hm : l.length = m) (hm2 : m ≤ 1000) (hl : IntsAt w A (Ld.flat3 l)) :
    Calls Tryz.prog 123 #[.slice A m c] w fun e w' => e = .returned (.int .i64 (Ld.chkE l)) ∧ Below w.heap.size w w' := by
  have HL := Lib.hid hl
  have HM := Lib.hid hm
  have HY : Hid (∀ k : Nat, m ≤ k → (∀ (i : Nat) s, i < k → l[i]? = some s → Ld.spB s = true) → Ld.chkE l = 0) := fun k hk h => Ld.chk_yes fun i s hs => h i s (by have := (List.getElem?_eq_some_iff.1 hs).1; omega) hs
  have HN : Hid (∀ (k : Nat) s, l[k]? = some s → Ld.spB s = false → Ld.chkE l = 1) := fun k s h1 h2 => Ld.chk_no h1 h2
  clear hl hm
  generalize Ld.chkE l = r at *
  go_enter Tryz.func123, Tryz.ntmps123
  go_wp2_with fail
  go_loopg [2, 7] m (fun gk s2 s7 W => ∃ (k : Nat), k + gk = m ∧ s2 = .int .i64 0 ∧ s7 = .int .i64 k ∧ Hid (Below w.heap.size w W) ∧ Hid (∀ (i : Nat) s, i < k → l[i]? = some s → Ld.spB s = true))
  case atStart => exact ⟨0, by omega, rfl, rfl, Below.refl _ _, fun i s hi => by omega⟩
  case round =>
    obtain ⟨k, hkg, rfl, rfl, HB, HK⟩ := hrel
    by_cases hlt : k < m
    · obtain ⟨gk, rfl⟩ : ∃ j, gk = j + 1 := ⟨gk - 1, by omega⟩
      obtain ⟨s, hs⟩ := mlist_at l k (by rw [HM.out]; exact hlt)
      obtain ⟨ad, rfl, hc⟩ := spans_at (HL.out.below HB.out) hs
      obtain ⟨c0, c1, c2⟩ := hc
      have HN2 := Lib.hid (HN.out k s hs)
      have HS := Lib.hid hs
      clear hs
      obtain ⟨x, a, b⟩ := s
      simp only at c0 c1 c2
      have HB2 := Lib.hid (below_more HB.out)
      by_cases h1 : x < a
      · have d1 : decide (x < a) = true := decide_eq_true h1
        have HR := Lib.hid (HN2.out (Ld.spB_less h1))
        go_wp2
        go_ret
        exact ⟨by rw [HR.out]; rfl, HB2.out _⟩
      · have d1 : decide (x < a) = false := decide_eq_false h1
        by_cases h2 : b < x
        · have d2 : decide (b < x) = true := decide_eq_true h2
          have HR := Lib.hid (HN2.out (Ld.spB_more h2))
          go_wp2
          go_ret
          exact ⟨by rw [HR.out]; rfl, HB2.out _⟩
        · have d2 : decide (b < x) = false := decide_eq_false h2
          have HK2 : Hid (∀ (i : Nat) s, i < k + 1 → l[i]? = some s → Ld.spB s = true) := fun i s hi hs => by
            by_cases h : i < k
            · exact HK.out i s h hs
            · obtain rfl : i = k := by omega
              rw [HS.out] at hs
              obtain rfl := Option.some.inj hs
              exact Ld.spB_yes (by omega) (by omega)
          go_wp2
          go_roundg gk
          case measure => omega
          case rel => exact ⟨k + 1, by omega, rfl, by first | rfl | go_num, HB2.out _, HK2.out⟩
    · have HR := Lib.hid (HY.out k (by omega) HK.out)
      have hk : k = m := by omega
      subst hk
      go_wp2
      go_ret
      exact ⟨by rw [HR.out]; rfl, HB.out⟩

theorem check_new (W : World) (b m : Nat) (cs : Array Value) (l : List (Int × Int × Int)) (hb : b = W.heap.size) (hcs : cs = ((Ld.flat3 l).map (Value.int .i64)).toArray) (hm : l.length = m) (hm2 : m ≤ 1000) :
    Calls Tryz.prog 123 #[.slice (some ⟨b, 0, none⟩) m m] (W.alloc (.cells cs 154)) fun e w' => e = .returned (.int .i64 (Ld.chkE l)) ∧ Hid (Below W.heap.size W w') := by
  subst hb
  exact (check_sp _ m m l _ hm hm2 (box_ints (Box.new W cs _) hcs)).mono fun _ _ ⟨h1, h2⟩ => ⟨h1, below_box h2⟩
def spO (a0 a1 a2 a3 a4 a5 a6 a7 m : Int) : List (Int × Int × Int) :=
  [(a0, 1, 1000000), (a1, 0, 31), (a2, 1, m), (a3, 1, 1000000), (a4, 1, 1000000), (a5, 0, a6), (a6, 0, 1000000), (a7, 0, 10000)]
theorem spO_eq (a0 a1 a2 a3 a4 a5 a6 a7 n m : Int) (h : max n 1 - 1 = m) : Ld.oE ⟨a0, a1, a2, a3, a4, a5, a6, a7⟩ n = Ld.chkE (spO a0 a1 a2 a3 a4 a5 a6 a7 m) := by subst h; rfl
theorem size_one (w : World) (o : Obj) : w.heap.size + 1 = (w.alloc o).heap.size := by simp

set_option maxHeartbeats 1000000 in
theorem order_val (a0 a1 a2 a3 a4 a5 a6 a7 n : Int) (w : World) (hn : n ≤ 9223372036854775807) :
    Calls Tryz.prog 88 #[.agg #[.int .i64 a0, .int .i64 a1, .int .i64 a2, .int .i64 a3, .int .i64 a4, .int .i64 a5, .int .i64 a6, .int .i64 a7], .int .i64 n] w fun e w' => e = .returned (.int .i64 (Ld.oE ⟨a0, a1, a2, a3, a4, a5, a6, a7⟩ n)) ∧ Below w.heap.size w w' := by
  by_cases h1 : 1 < n
  · have HE := Lib.hid (spO_eq a0 a1 a2 a3 a4 a5 a6 a7 n (n - 1) (by omega))
    have h2 : ¬ n < 1 := by omega
    have h3 : ¬ n ≤ 1 := by omega
    go_enter Tryz.func88, Tryz.ntmps88
    go_wp2_with fail
    refine (check_new _ _ 8 _ (spO a0 a1 a2 a3 a4 a5 a6 a7 (n - 1)) (size_one _ _) rfl rfl (by omega)).mono ?_
    rintro e w1 ⟨rfl, hb1⟩
    go_wp2
    go_ret
    exact ⟨by rw [HE.out]; rfl, below_box hb1.out⟩
  by_cases h3 : n < 1
  · have HE := Lib.hid (spO_eq a0 a1 a2 a3 a4 a5 a6 a7 n 0 (by omega))
    have h2 : n ≤ 1 := by omega
    go_enter Tryz.func88, Tryz.ntmps88
    go_wp2_with fail
    refine (check_new _ _ 8 _ (spO a0 a1 a2 a3 a4 a5 a6 a7 0) (size_one _ _) rfl rfl (by omega)).mono ?_
    rintro e w1 ⟨rfl, hb1⟩
    go_wp2
    go_ret
    exact ⟨by rw [HE.out]; rfl, below_box hb1.out⟩
  · obtain rfl : n = 1 := by omega
    have HE := Lib.hid (spO_eq a0 a1 a2 a3 a4 a5 a6 a7 1 0 (by omega))
    clear h1 h3 hn
    go_enter Tryz.func88, Tryz.ntmps88
    go_wp2_with fail
    refine (check_new _ _ 8 _ (spO a0 a1 a2 a3 a4 a5 a6 a7 0) (size_one _ _) rfl rfl (by omega)).mono ?_
    rintro e w1 ⟨rfl, hb1⟩
    go_wp2
    go_ret
    exact ⟨by rw [HE.out]; rfl, below_box hb1.out⟩

def spT (a0 a1 a2 a3 a4 a5 a6 : Int) : List (Int × Int × Int) :=
  [(a0, 1, 1000000), (a1, 1, 1000000), (a2, 1, 1000000), (a3, 0, a4), (a4, 0, 1000000), (a5, 0, 1000000), (a6, 0, 1000)]
set_option maxHeartbeats 1000000 in
theorem truck_val (a0 a1 a2 a3 a4 a5 a6 : Int) (w : World) :
    Calls Tryz.prog 91 #[.agg #[.int .i64 a0, .int .i64 a1, .int .i64 a2, .int .i64 a3, .int .i64 a4, .int .i64 a5, .int .i64 a6]] w fun e w' => e = .returned (.int .i64 (Ld.tE ⟨a0, a1, a2, a3, a4, a5, a6⟩)) ∧ Below w.heap.size w w' := by
  have HE : Hid (Ld.tE ⟨a0, a1, a2, a3, a4, a5, a6⟩ = Ld.chkE (spT a0 a1 a2 a3 a4 a5 a6)) := by unfold Hid; rfl
  go_enter Tryz.func91, Tryz.ntmps91
  go_wp2_with fail
  refine (check_new _ _ 7 _ (spT a0 a1 a2 a3 a4 a5 a6) (size_one _ _) rfl rfl (by omega)).mono ?_
  rintro e w1 ⟨rfl, hb1⟩
  go_wp2
  go_ret
  exact ⟨by rw [HE.out]; rfl, below_box hb1.out⟩

theorem order_any (o : Ld.O) (n : Int) (w : World) (r : Int) (hr : Ld.oE o n = r) (hn : n ≤ 9223372036854775807) :
    Calls Tryz.prog 88 #[.agg #[.int .i64 o.id, .int .i64 o.owner, .int .i64 o.node, .int .i64 o.weight, .int .i64 o.volume, .int .i64 o.frm, .int .i64 o.to, .int .i64 o.service], .int .i64 n] w fun e w' => e = .returned (.int .i64 r) ∧ Hid (Below w.heap.size w w') := by
  subst hr
  exact order_val _ _ _ _ _ _ _ _ n w hn
theorem truck_any (t : Ld.T) (w : World) (r : Int) (hr : Ld.tE t = r) :
    Calls Tryz.prog 91 #[.agg #[.int .i64 t.id, .int .i64 t.weight, .int .i64 t.volume, .int .i64 t.start, .int .i64 t.fin, .int .i64 t.fixed, .int .i64 t.rate]] w fun e w' => e = .returned (.int .i64 r) ∧ Hid (Below w.heap.size w w') := by
  subst hr
  exact truck_val _ _ _ _ _ _ _ w
end Go.Proofs.YtgjmlnpfkmpfgaaGreat
end

section
/-! Contracts of the document's own money.Sum and what it calls. -/
namespace Go.Proofs.YtgjmlnpfkmpfgaaGreat
open Go.RowKit
set_option linter.unusedVariables false

set_option maxHeartbeats 400000 in
theorem rmon_may (n : Int) (w : World) :
    Calls Tryz.prog 154 #[.int .i64 n] w fun e w' => e = .returned (.bool (Grp.mayB n)) ∧ w = w' := by
  by_cases h1 : -4611686018427387903 ≤ n
  · by_cases h2 : n ≤ 4611686018427387903
    · have e : Grp.mayB n = true := (Grp.mayB_iff n).2 ⟨h1, h2⟩
      rw [e]
      go_enter Tryz.func154, Tryz.ntmps154
      go_wp2
      go_ret
      exact ⟨rfl, rfl⟩
    · have e : Grp.mayB n = false := (Grp.mayB_no n).2 (by omega)
      rw [e]
      go_enter Tryz.func154, Tryz.ntmps154
      go_wp2
      go_ret
      exact ⟨rfl, rfl⟩
  · have e : Grp.mayB n = false := (Grp.mayB_no n).2 (by omega)
    rw [e]
    go_enter Tryz.func154, Tryz.ntmps154
    go_wp2
    go_ret
    exact ⟨rfl, rfl⟩

set_option maxHeartbeats 400000 in
theorem rmon_add (a b : Int) (w : World) :
    Calls Tryz.prog 155 #[.int .i64 a, .int .i64 b] w fun e w' => e = .returned (.tuple #[.int .i64 (Grp.addS a b).1, .int .i64 (Grp.addS a b).2]) ∧ w = w' := by
  cases ha : Grp.mayB a
  · have e : Grp.addS a b = (0, 1) := by unfold Grp.addS; simp [ha]
    rw [e]
    clear e
    go_enter Tryz.func155, Tryz.ntmps155
    go_wp2_with (go_at_call 154; refine (rmon_may _ _).mono ?_; rintro e w' ⟨rfl, rfl⟩)
    go_ret2
    exact ⟨rfl, rfl⟩
  · cases hb : Grp.mayB b
    · have e : Grp.addS a b = (0, 1) := by unfold Grp.addS; simp [hb]
      rw [e]
      clear e
      go_enter Tryz.func155, Tryz.ntmps155
      go_wp2_with (go_at_call 154; refine (rmon_may _ _).mono ?_; rintro e w' ⟨rfl, rfl⟩)
      go_ret2
      exact ⟨rfl, rfl⟩
    · have ha' := (Grp.mayB_iff a).1 ha
      have hb' := (Grp.mayB_iff b).1 hb
      obtain ⟨a1, a2⟩ := ha'
      obtain ⟨b1, b2⟩ := hb'
      cases hm : Grp.mayB (a + b)
      · have e := Grp.addS_full a b ha hb hm
        rw [e]
        have hm' := (Grp.mayB_no _).1 hm
        clear e hm
        by_cases hp : 0 < b
        · have h1 : 4611686018427387903 - b < a := by omega
          clear hm'
          go_enter Tryz.func155, Tryz.ntmps155
          go_wp2_with (go_at_call 154; refine (rmon_may _ _).mono ?_; rintro e w' ⟨rfl, rfl⟩)
          go_ret2
          exact ⟨rfl, rfl⟩
        · have h1 : b < 0 := by omega
          have h2 : a < -4611686018427387903 - b := by omega
          clear hm'
          go_enter Tryz.func155, Tryz.ntmps155
          go_wp2_with (go_at_call 154; refine (rmon_may _ _).mono ?_; rintro e w' ⟨rfl, rfl⟩)
          go_ret2
          exact ⟨rfl, rfl⟩
      · have e := Grp.addS_yes a b ha hb hm
        rw [e]
        have hm' := (Grp.mayB_iff _).1 hm
        obtain ⟨m1, m2⟩ := hm'
        clear e hm
        by_cases hp : 0 < b
        · have h1 : ¬ 4611686018427387903 - b < a := by omega
          have h2 : ¬ b < 0 := by omega
          go_enter Tryz.func155, Tryz.ntmps155
          go_wp2_with (go_at_call 154; refine (rmon_may _ _).mono ?_; rintro e w' ⟨rfl, rfl⟩)
          go_ret2
          exact ⟨rfl, rfl⟩
        · by_cases hn : b < 0
          · have h2 : ¬ a < -4611686018427387903 - b := by omega
            go_enter Tryz.func155, Tryz.ntmps155
            go_wp2_with (go_at_call 154; refine (rmon_may _ _).mono ?_; rintro e w' ⟨rfl, rfl⟩)
            go_ret2
            exact ⟨rfl, rfl⟩
          · go_enter Tryz.func155, Tryz.ntmps155
            go_wp2_with (go_at_call 154; refine (rmon_may _ _).mono ?_; rintro e w' ⟨rfl, rfl⟩)
            go_ret2
            exact ⟨rfl, rfl⟩

set_option maxHeartbeats 1000000 in
theorem rmon_sum (A : Option Addr) (c : Nat) (zs : List Int) (w : World) (hl : zs.length ≤ maxLen) (hc : IntsAt w A zs) :
    Calls Tryz.prog 142 #[.slice A zs.length c] w fun e w' => e = .returned (.tuple #[.int .i64 (Grp.sumS zs).1, .int .i64 (Grp.sumS zs).2]) ∧ w = w' := by
  unfold maxLen at hl
  have HC := Lib.hid hc
  clear hc
  go_enter Tryz.func142, Tryz.ntmps142
  go_wp2_with fail
  go_loop [4] (fun i => ∃ k : Nat, k ≤ zs.length ∧ i = .int .i64 k ∧ Hid ((zs.take k).all Grp.mayB = true)) (fun i => zs.length - (intOf i).toNat)
  case atStart => exact ⟨0, by omega, rfl, rfl⟩
  case round =>
    obtain ⟨k, hk, rfl, hall⟩ := hrel
    by_cases hlt : k < zs.length
    · obtain ⟨z, hz⟩ := mlist_at zs k hlt
      obtain ⟨ad, rfl, hcell⟩ := HC.out k z hz
      have HZ := Lib.hid hz
      clear hz
      cases hm : Grp.mayB z
      · go_wp2_with (go_at_call 154; refine (rmon_may _ _).mono ?_; rintro e w' ⟨rfl, rfl⟩)
        go_ret2
        exact ⟨by rw [show Grp.sumS zs = (0, 1) from by unfold Grp.sumS; rw [Grp.all_false zs k z HZ.out hm]; rfl]; rfl, rfl⟩
      · go_wp2_with (go_at_call 154; refine (rmon_may _ _).mono ?_; rintro e w' ⟨rfl, rfl⟩)
        go_round
        case rel => exact ⟨k + 1, by omega, by go_num, by show _ = _; rw [Grp.all_take zs k z HZ.out hall.out]; exact hm⟩
        case measure => simp [intOf]; omega
    · obtain rfl : k = zs.length := by omega
      have hall' : Hid (zs.all Grp.mayB = true) := by have := hall.out; rw [List.take_length] at this; exact this
      clear hall hlt
      go_wp2_with fail
      go_loop [5, 6] (fun s i => ∃ (k : Nat) (n : Int), k ≤ zs.length ∧ i = .int .i64 k ∧ s = .int .i64 n ∧ -4611686018427387903 ≤ n ∧ n ≤ 4611686018427387903 ∧ Hid (Grp.sumFrom 0 zs = Grp.sumFrom n (zs.drop k))) (fun _ i => zs.length - (intOf i).toNat)
      case atStart => exact ⟨0, 0, by omega, rfl, rfl, by omega, by omega, rfl⟩
      case round =>
        obtain ⟨k, n, hk, rfl, rfl, n1, n2, hs⟩ := hrel
        have es : Hid (Grp.sumS zs = Grp.sumFrom 0 zs) := by show _ = _; unfold Grp.sumS; rw [hall'.out]; rfl
        by_cases hlt : k < zs.length
        · obtain ⟨z, hz⟩ := mlist_at zs k hlt
          obtain ⟨ad, rfl, hcell⟩ := HC.out k z hz
          have hmz := Grp.all_at zs k z hz hall'.out
          have hmn : Grp.mayB n = true := (Grp.mayB_iff n).2 ⟨n1, n2⟩
          have hst := Grp.sumFrom_step n zs k z hz
          clear hz
          cases hm : Grp.mayB (n + z)
          · rw [hm] at hst
            have HST := Lib.hid hst
            have hadd := Grp.addS_full n z hmn hmz hm
            clear hst hm hmn hmz
            go_wp2_with (go_at_call 155; refine (rmon_add _ _ _).mono ?_; rintro e w' ⟨rfl, rfl⟩)
            go_ret2
            exact ⟨by rw [es.out, hs.out, HST.out]; rfl, rfl⟩
          · rw [hm] at hst
            have HST := Lib.hid hst
            have hadd := Grp.addS_yes n z hmn hmz hm
            have hb := (Grp.mayB_iff _).1 hm
            obtain ⟨b1, b2⟩ := hb
            clear hst hm hmn hmz
            go_wp2_with (go_at_call 155; refine (rmon_add _ _ _).mono ?_; rintro e w' ⟨rfl, rfl⟩)
            go_round
            case rel => exact ⟨k + 1, n + z, by omega, by go_num, rfl, b1, b2, by show _ = _; rw [hs.out, HST.out]; rfl⟩
            case measure => simp [intOf]; omega
        · go_wp2_with fail
          go_ret2
          exact ⟨by rw [es.out, hs.out, Grp.sumFrom_end n zs k (by omega)]; rfl, rfl⟩

end Go.Proofs.YtgjmlnpfkmpfgaaGreat
end
