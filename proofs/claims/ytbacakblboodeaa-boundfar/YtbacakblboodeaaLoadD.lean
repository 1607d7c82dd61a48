/- Contracts of package load: whether all orders and all trucks may be; World. -/
import Derived.Test.YtbacakblboodeaaLoadC
namespace Go.Proofs.Ytbacakblboodeaa
open Go.RowKit
set_option linter.unusedVariables false

set_option maxHeartbeats 1000000 in
theorem inWorld (a0 a1 a2 a3 a4 a5 a6 a7 : Int) (b : Nat) (N : Int) (w : World) (r : Int) (hr : Ld.oE ⟨a0, a1, a2, a3, a4, a5, a6, a7⟩ N = r) (hN : N ≤ 9223372036854775807) (hb : w.cell? ⟨b, 0, none⟩ = some (.int .i64 N)) :
    Calls Try.prog 63 #[.agg #[.int .i64 a0, .int .i64 a1, .int .i64 a2, .int .i64 a3, .int .i64 a4, .int .i64 a5, .int .i64 a6, .int .i64 a7], .pointer (some ⟨b, 0, none⟩)] w fun e w' => e = .returned (.int .i64 r) ∧ Hid (Below w.heap.size w w') := by
  have y1 : (w.alloc (.cells #[.int .i64 a0, .int .i64 a1, .int .i64 a2, .int .i64 a3, .int .i64 a4, .int .i64 a5, .int .i64 a6, .int .i64 a7] 57)).cell? ⟨b, 0, none⟩ = some (.int .i64 N) := by rw [(below_alloc w _).cell (lt_of_cell hb)]; exact hb
  have HC := Lib.hid (order_any ⟨a0, a1, a2, a3, a4, a5, a6, a7⟩ N (w.alloc (.cells #[.int .i64 a0, .int .i64 a1, .int .i64 a2, .int .i64 a3, .int .i64 a4, .int .i64 a5, .int .i64 a6, .int .i64 a7] 57)) r hr hN)
  clear hb hr
  go_enter Try.func63, Try.ntmps63
  go_wp2_with (go_at_call 64; refine HC.out.mono ?_; rintro e w2 ⟨rfl, hb2⟩)
  go_ret
  exact ⟨rfl, below_box hb2.out⟩

set_option maxHeartbeats 2000000 in
set_option maxRecDepth 100000 in
theorem all_o (b : Nat) (N : Int) (A : Option Addr) (m c : Nat) (l : List Ld.O) (w : World) (hm : l.length = m) (hm2 : m ≤ 1000) (hl : OrdersAt w A l) (hN : N ≤ 9223372036854775807) (hb0 : w.cell? ⟨b, 0, none⟩ = some (.int .i64 N)) :
    Calls Try.prog 65 #[.slice A m c, .func (.func 63) #[] #[.pointer (some ⟨b, 0, none⟩)]] w fun e w' => e = .returned (.bool (l.all (fun o => Ld.oB o N))) ∧ Below w.heap.size w w' := by
  have HL := Lib.hid hl
  have HM := Lib.hid hm
  have HN0 := Lib.hid hb0
  clear hb0
  have HY : Hid (∀ k : Nat, m ≤ k → (l.take k).all (fun o => Ld.oB o N) = true → l.all (fun o => Ld.oB o N) = true) := fun k hk h => Ld.all_full (by omega) h
  have HN : Hid (∀ (k : Nat) x, l[k]? = some x → (fun o => Ld.oB o N) x = false → l.all (fun o => Ld.oB o N) = false) := fun k x h1 h2 => Ld.all_stop h1 h2
  clear hl hm
  generalize l.all (fun o => Ld.oB o N) = r at *
  go_enter Try.func65, Try.ntmps65
  go_wp2_with fail
  go_loopg [4, 9] m (fun gk s4 s9 W => ∃ (k : Nat), k + gk = m ∧ s4 = .bool false ∧ s9 = .int .i64 k ∧ Hid (Below w.heap.size w W) ∧ Hid ((l.take k).all (fun o => Ld.oB o N) = true))
  case atStart => exact ⟨0, by omega, rfl, rfl, Below.refl _ _, rfl⟩
  case round =>
    obtain ⟨k, hkg, rfl, rfl, HB, HK⟩ := hrel
    by_cases hlt : k < m
    · obtain ⟨gk, rfl⟩ : ∃ j, gk = j + 1 := ⟨gk - 1, by omega⟩
      obtain ⟨s, hs⟩ := mlist_at l k (by rw [HM.out]; exact hlt)
      obtain ⟨ad, rfl, hc⟩ := (HL.out.below HB.out).at_ hs
      obtain ⟨c0, c1, c2, c3, c4, c5, c6, c7⟩ := hc
      obtain ⟨a0, a1, a2, a3, a4, a5, a6, a7⟩ := s
      simp only at c0 c1 c2 c3 c4 c5 c6 c7
      have HB2 := Lib.hid (below_more HB.out)
      cases h1 : Ld.oB ⟨a0, a1, a2, a3, a4, a5, a6, a7⟩ N
      · have HR := Lib.hid (HN.out k _ hs h1)
        have HC : Hid (∀ W, Below w.heap.size w W → Calls Try.prog 63 #[.agg #[.int .i64 a0, .int .i64 a1, .int .i64 a2, .int .i64 a3, .int .i64 a4, .int .i64 a5, .int .i64 a6, .int .i64 a7], .pointer (some ⟨b, 0, none⟩)] W fun e w' => e = .returned (.int .i64 1) ∧ Hid (Below w.heap.size w w')) := fun W hb =>
          (inWorld a0 a1 a2 a3 a4 a5 a6 a7 b N W 1 (Ld.oE_no h1) hN (by rw [hb.cell (lt_of_cell HN0.out)]; exact HN0.out)).mono fun _ _ ⟨e1, e2⟩ => ⟨e1, below_next hb e2.out⟩
        clear hs h1
        go_wp2_with (go_at_call 63; refine (HC.out _ (HB2.out _)).mono ?_; rintro e w2 ⟨rfl, hb2⟩)
        go_ret
        exact ⟨by rw [HR.out]; rfl, hb2.out⟩
      · have HK2 := Lib.hid (Ld.all_snoc hs HK.out h1)
        have HC : Hid (∀ W, Below w.heap.size w W → Calls Try.prog 63 #[.agg #[.int .i64 a0, .int .i64 a1, .int .i64 a2, .int .i64 a3, .int .i64 a4, .int .i64 a5, .int .i64 a6, .int .i64 a7], .pointer (some ⟨b, 0, none⟩)] W fun e w' => e = .returned (.int .i64 0) ∧ Hid (Below w.heap.size w w')) := fun W hb =>
          (inWorld a0 a1 a2 a3 a4 a5 a6 a7 b N W 0 (Ld.oE_yes h1) hN (by rw [hb.cell (lt_of_cell HN0.out)]; exact HN0.out)).mono fun _ _ ⟨e1, e2⟩ => ⟨e1, below_next hb e2.out⟩
        clear hs h1
        go_wp2_with (go_at_call 63; refine (HC.out _ (HB2.out _)).mono ?_; rintro e w2 ⟨rfl, hb2⟩)
        go_roundg gk
        case measure => omega
        case rel => exact ⟨k + 1, by omega, rfl, by first | rfl | go_num, hb2.out, HK2.out⟩
    · have HR := Lib.hid (HY.out k (by omega) HK.out)
      have hk : k = m := by omega
      subst hk
      go_wp2
      go_ret
      exact ⟨by rw [HR.out]; rfl, HB.out⟩

set_option maxHeartbeats 2000000 in
set_option maxRecDepth 100000 in
theorem all_t (A : Option Addr) (m c : Nat) (l : List Ld.T) (w : World) (hm : l.length = m) (hm2 : m ≤ 1000) (hl : TrucksAt w A l) :
    Calls Try.prog 66 #[.slice A m c, .func (.func 67) #[] #[]] w fun e w' => e = .returned (.bool (l.all Ld.tB)) ∧ Below w.heap.size w w' := by
  have HL := Lib.hid hl
  have HM := Lib.hid hm
  have HY : Hid (∀ k : Nat, m ≤ k → (l.take k).all Ld.tB = true → l.all Ld.tB = true) := fun k hk h => Ld.all_full (by omega) h
  have HN : Hid (∀ (k : Nat) x, l[k]? = some x → Ld.tB x = false → l.all Ld.tB = false) := fun k x h1 h2 => Ld.all_stop h1 h2
  clear hl hm
  generalize l.all Ld.tB = r at *
  go_enter Try.func66, Try.ntmps66
  go_wp2_with fail
  go_loopg [4, 9] m (fun gk s4 s9 W => ∃ (k : Nat), k + gk = m ∧ s4 = .bool false ∧ s9 = .int .i64 k ∧ Hid (Below w.heap.size w W) ∧ Hid ((l.take k).all Ld.tB = true))
  case atStart => exact ⟨0, by omega, rfl, rfl, Below.refl _ _, rfl⟩
  case round =>
    obtain ⟨k, hkg, rfl, rfl, HB, HK⟩ := hrel
    by_cases hlt : k < m
    · obtain ⟨gk, rfl⟩ : ∃ j, gk = j + 1 := ⟨gk - 1, by omega⟩
      obtain ⟨s, hs⟩ := mlist_at l k (by rw [HM.out]; exact hlt)
      obtain ⟨ad, rfl, hc⟩ := (HL.out.below HB.out).at_ hs
      obtain ⟨c0, c1, c2, c3, c4, c5, c6⟩ := hc
      obtain ⟨a0, a1, a2, a3, a4, a5, a6⟩ := s
      simp only at c0 c1 c2 c3 c4 c5 c6
      have HB2 := Lib.hid (below_more HB.out)
      cases h1 : Ld.tB ⟨a0, a1, a2, a3, a4, a5, a6⟩
      · have HR := Lib.hid (HN.out k _ hs h1)
        have HC : Hid (∀ W, Below w.heap.size w W → Calls Try.prog 67 #[.agg #[.int .i64 a0, .int .i64 a1, .int .i64 a2, .int .i64 a3, .int .i64 a4, .int .i64 a5, .int .i64 a6]] W fun e w' => e = .returned (.int .i64 1) ∧ Hid (Below w.heap.size w w')) := fun W hb =>
          (truck_any ⟨a0, a1, a2, a3, a4, a5, a6⟩ W 1 (Ld.tE_no h1)).mono fun _ _ ⟨e1, e2⟩ => ⟨e1, below_next hb e2.out⟩
        clear hs h1
        go_wp2_with (go_at_call 67; refine (HC.out _ (HB2.out _)).mono ?_; rintro e w2 ⟨rfl, hb2⟩)
        go_ret
        exact ⟨by rw [HR.out]; rfl, hb2.out⟩
      · have HK2 := Lib.hid (Ld.all_snoc hs HK.out h1)
        have HC : Hid (∀ W, Below w.heap.size w W → Calls Try.prog 67 #[.agg #[.int .i64 a0, .int .i64 a1, .int .i64 a2, .int .i64 a3, .int .i64 a4, .int .i64 a5, .int .i64 a6]] W fun e w' => e = .returned (.int .i64 0) ∧ Hid (Below w.heap.size w w')) := fun W hb =>
          (truck_any ⟨a0, a1, a2, a3, a4, a5, a6⟩ W 0 (Ld.tE_yes h1)).mono fun _ _ ⟨e1, e2⟩ => ⟨e1, below_next hb e2.out⟩
        clear hs h1
        go_wp2_with (go_at_call 67; refine (HC.out _ (HB2.out _)).mono ?_; rintro e w2 ⟨rfl, hb2⟩)
        go_roundg gk
        case measure => omega
        case rel => exact ⟨k + 1, by omega, rfl, by first | rfl | go_num, hb2.out, HK2.out⟩
    · have HR := Lib.hid (HY.out k (by omega) HK.out)
      have hk : k = m := by omega
      subst hk
      go_wp2
      go_ret
      exact ⟨by rw [HR.out]; rfl, HB.out⟩

def wV (N : Int) (v1 v2 : Value) (A : Option Addr) (m c : Nat) (B : Option Addr) (k d : Nat) : Array Value := #[.int .i64 N, v1, v2, .slice A m c, .slice B k d]
/-- a world in a box of its own, its rows beside it -/
structure WBox (w : World) (b : Nat) (N : Int) (v1 v2 : Value) (A : Option Addr) (m c : Nat) (os : List Ld.O) (B : Option Addr) (k d : Nat) (ts : List Ld.T) : Prop where
  box : Box w b (wV N v1 v2 A m c B k d) 28
  os : OrdersAt w A os
  ts : TrucksAt w B ts
theorem WBox.below {w w' : World} {b : Nat} {N : Int} {v1 v2 : Value} {A : Option Addr} {m c : Nat} {os : List Ld.O} {B : Option Addr} {k d : Nat} {ts : List Ld.T} (h : WBox w b N v1 v2 A m c os B k d ts) (hb : Below w.heap.size w w') : WBox w' b N v1 v2 A m c os B k d ts := ⟨h.box.below hb, h.os.below hb, h.ts.below hb⟩
theorem WBox.new {w : World} {N : Int} {v1 v2 : Value} {A : Option Addr} {m c : Nat} {os : List Ld.O} {B : Option Addr} {k d : Nat} {ts : List Ld.T} (h1 : OrdersAt w A os) (h2 : TrucksAt w B ts) : WBox (w.alloc (.cells #[.int .i64 N, v1, v2, .slice A m c, .slice B k d] 28)) w.heap.size N v1 v2 A m c os B k d ts :=
  ⟨Box.new w _ _, h1.below (below_alloc _ _), h2.below (below_alloc _ _)⟩
theorem WBox.c0 {w : World} {b : Nat} {N : Int} {v1 v2 : Value} {A : Option Addr} {m c : Nat} {os : List Ld.O} {B : Option Addr} {k d : Nat} {ts : List Ld.T} (h : WBox w b N v1 v2 A m c os B k d ts) : w.cell? ⟨b, 0, none⟩ = some (.int .i64 N) := h.box.cell 0 _ rfl
theorem WBox.c1 {w : World} {b : Nat} {N : Int} {v1 v2 : Value} {A : Option Addr} {m c : Nat} {os : List Ld.O} {B : Option Addr} {k d : Nat} {ts : List Ld.T} (h : WBox w b N v1 v2 A m c os B k d ts) : w.cell? ⟨b, 1, none⟩ = some v1 := h.box.cell 1 _ rfl
theorem WBox.c2 {w : World} {b : Nat} {N : Int} {v1 v2 : Value} {A : Option Addr} {m c : Nat} {os : List Ld.O} {B : Option Addr} {k d : Nat} {ts : List Ld.T} (h : WBox w b N v1 v2 A m c os B k d ts) : w.cell? ⟨b, 2, none⟩ = some v2 := h.box.cell 2 _ rfl
theorem WBox.c3 {w : World} {b : Nat} {N : Int} {v1 v2 : Value} {A : Option Addr} {m c : Nat} {os : List Ld.O} {B : Option Addr} {k d : Nat} {ts : List Ld.T} (h : WBox w b N v1 v2 A m c os B k d ts) : w.cell? ⟨b, 3, none⟩ = some (.slice A m c) := h.box.cell 3 _ rfl
theorem WBox.c4 {w : World} {b : Nat} {N : Int} {v1 v2 : Value} {A : Option Addr} {m c : Nat} {os : List Ld.O} {B : Option Addr} {k d : Nat} {ts : List Ld.T} (h : WBox w b N v1 v2 A m c os B k d ts) : w.cell? ⟨b, 4, none⟩ = some (.slice B k d) := h.box.cell 4 _ rfl

theorem allo_b (b : Nat) (N : Int) (A : Option Addr) (m c : Nat) (l : List Ld.O) (w : World) (r : Bool) (hr : l.all (fun o => Ld.oB o N) = r) (hm : l.length = m) (hm2 : m ≤ 1000) (hl : OrdersAt w A l) (hN : N ≤ 9223372036854775807) (hb0 : w.cell? ⟨b, 0, none⟩ = some (.int .i64 N)) :
    Calls Try.prog 65 #[.slice A m c, .func (.func 63) #[] #[.pointer (some ⟨b, 0, none⟩)]] w fun e w' => e = .returned (.bool r) ∧ Hid (Below w.heap.size w w') := by
  subst hr
  exact all_o b N A m c l w hm hm2 hl hN hb0
theorem allt_b (A : Option Addr) (m c : Nat) (l : List Ld.T) (w : World) (r : Bool) (hr : l.all Ld.tB = r) (hm : l.length = m) (hm2 : m ≤ 1000) (hl : TrucksAt w A l) :
    Calls Try.prog 66 #[.slice A m c, .func (.func 67) #[] #[]] w fun e w' => e = .returned (.bool r) ∧ Hid (Below w.heap.size w w') := by
  subst hr
  exact all_t A m c l w hm hm2 hl
theorem twoo_b (A : Option Addr) (m c : Nat) (l : List Ld.O) (w : World) (r : Bool) (hr : Ld.twB (l.map Ld.O.id) = r) (hm : l.length = m) (hm2 : m ≤ 1000) (hl : OrdersAt w A l) :
    Calls Try.prog 68 #[.slice A m c, .func (.func 69) #[] #[]] w fun e w' => e = .returned (.bool r) ∧ Hid (Below w.heap.size w w') := by
  subst hr
  exact two_o A m c l w hm hm2 hl
theorem twot_b (A : Option Addr) (m c : Nat) (l : List Ld.T) (w : World) (r : Bool) (hr : Ld.twB (l.map Ld.T.id) = r) (hm : l.length = m) (hm2 : m ≤ 1000) (hl : TrucksAt w A l) :
    Calls Try.prog 70 #[.slice A m c, .func (.func 71) #[] #[]] w fun e w' => e = .returned (.bool r) ∧ Hid (Below w.heap.size w w') := by
  subst hr
  exact two_t A m c l w hm hm2 hl

set_option maxHeartbeats 2000000 in
set_option maxRecDepth 100000 in
theorem world_val (N : Int) (v1 v2 : Value) (A : Option Addr) (m c : Nat) (os : List Ld.O) (B : Option Addr) (k d : Nat) (ts : List Ld.T) (w : World) (hN : N ≤ 9223372036854775807) (hm : os.length = m) (hm2 : m ≤ 1000) (hk : ts.length = k) (hk2 : k ≤ 1000) (hos : OrdersAt w A os) (hts : TrucksAt w B ts) :
    Calls Try.prog 44 #[.agg #[.int .i64 N, v1, v2, .slice A m c, .slice B k d]] w fun e w' => e = .returned (.int .i64 (Ld.worldE N os ts)) ∧ Below w.heap.size w w' := by
  have HB0 : Hid (Below w.heap.size w (w.alloc (.cells #[.int .i64 N, v1, v2, .slice A m c, .slice B k d] 28))) := below_alloc _ _
  have HX := Lib.hid (WBox.new (N := N) (v1 := v1) (v2 := v2) (m := m) (c := c) (k := k) (d := d) hos hts)
  have HM := Lib.hid hm
  have HK := Lib.hid hk
  clear hos hts hm hk
  by_cases h1 : 12 < m
  · have HR := Lib.hid (Ld.world_full (N := N) (os := os) (ts := ts) (.inl (by rw [HM.out]; exact h1)))
    have d1 : decide ((12 : Int) < (m : Int)) = true := decide_eq_true (by omega)
    clear h1
    go_enter Try.func44, Try.ntmps44
    go_wp2
    go_ret
    exact ⟨by rw [HR.out]; rfl, HB0.out⟩
  have d1 : decide ((12 : Int) < (m : Int)) = false := decide_eq_false (by omega)
  by_cases h2 : 6 < k
  · have HR := Lib.hid (Ld.world_full (N := N) (os := os) (ts := ts) (.inr (by rw [HK.out]; exact h2)))
    have d2 : decide ((6 : Int) < (k : Int)) = true := decide_eq_true (by omega)
    clear h1 h2
    go_enter Try.func44, Try.ntmps44
    go_wp2
    go_ret
    exact ⟨by rw [HR.out]; rfl, HB0.out⟩
  have d2 : decide ((6 : Int) < (k : Int)) = false := decide_eq_false (by omega)
  have HOA : Hid (∀ r, os.all (fun o => Ld.oB o N) = r → ∀ W1, WBox W1 w.heap.size N v1 v2 A m c os B k d ts → Below w.heap.size w W1 → Calls Try.prog 65 #[.slice A m c, .func (.func 63) #[] #[.pointer (some ⟨w.heap.size, 0, none⟩)]] W1 fun e w' => e = .returned (.bool r) ∧ Hid (Below w.heap.size w w' ∧ WBox w' w.heap.size N v1 v2 A m c os B k d ts)) := fun r hr W1 hx hb =>
    (allo_b w.heap.size N A m c os W1 r hr HM.out hm2 hx.os hN hx.c0).mono fun _ _ ⟨e1, e2⟩ => ⟨e1, below_next hb e2.out, hx.below e2.out⟩
  have HTA : Hid (∀ r, ts.all Ld.tB = r → ∀ W1, WBox W1 w.heap.size N v1 v2 A m c os B k d ts → Below w.heap.size w W1 → Calls Try.prog 66 #[.slice B k d, .func (.func 67) #[] #[]] W1 fun e w' => e = .returned (.bool r) ∧ Hid (Below w.heap.size w w' ∧ WBox w' w.heap.size N v1 v2 A m c os B k d ts)) := fun r hr W1 hx hb =>
    (allt_b B k d ts W1 r hr HK.out hk2 hx.ts).mono fun _ _ ⟨e1, e2⟩ => ⟨e1, below_next hb e2.out, hx.below e2.out⟩
  have HOT : Hid (∀ r, Ld.twB (os.map Ld.O.id) = r → ∀ W1, WBox W1 w.heap.size N v1 v2 A m c os B k d ts → Below w.heap.size w W1 → Calls Try.prog 68 #[.slice A m c, .func (.func 69) #[] #[]] W1 fun e w' => e = .returned (.bool r) ∧ Hid (Below w.heap.size w w' ∧ WBox w' w.heap.size N v1 v2 A m c os B k d ts)) := fun r hr W1 hx hb =>
    (twoo_b A m c os W1 r hr HM.out hm2 hx.os).mono fun _ _ ⟨e1, e2⟩ => ⟨e1, below_next hb e2.out, hx.below e2.out⟩
  have HTT : Hid (∀ r, Ld.twB (ts.map Ld.T.id) = r → ∀ W1, WBox W1 w.heap.size N v1 v2 A m c os B k d ts → Below w.heap.size w W1 → Calls Try.prog 70 #[.slice B k d, .func (.func 71) #[] #[]] W1 fun e w' => e = .returned (.bool r) ∧ Hid (Below w.heap.size w w' ∧ WBox w' w.heap.size N v1 v2 A m c os B k d ts)) := fun r hr W1 hx hb =>
    (twot_b B k d ts W1 r hr HK.out hk2 hx.ts).mono fun _ _ ⟨e1, e2⟩ => ⟨e1, below_next hb e2.out, hx.below e2.out⟩
  have l1 : Hid (os.length ≤ 12) := by unfold Hid; rw [HM.out]; omega
  have l2 : Hid (ts.length ≤ 6) := by unfold Hid; rw [HK.out]; omega
  clear h1 h2
  cases g1 : os.all (fun o => Ld.oB o N) with
  | false =>
    have HR := Lib.hid (Ld.world_arg l1.out l2.out (.inl g1))
    have HC := Lib.hid (HOA.out false g1 _ HX.out HB0.out)
    clear g1 HOA HTA HOT HTT
    go_enter Try.func44, Try.ntmps44
    go_wp2_with fail
    with_reducible refine HC.out.mono ?_
    rintro e w1 ⟨rfl, hb1⟩
    go_wp2
    go_ret
    exact ⟨by rw [HR.out]; rfl, hb1.out.1⟩
  | true =>
    have HC := Lib.hid (HOA.out true g1 _ HX.out HB0.out)
    have HG1 := Lib.hid g1
    clear g1
    cases g2 : ts.all Ld.tB with
    | false =>
      have HR := Lib.hid (Ld.world_arg (N := N) l1.out l2.out (.inr g2))
      have HC2 := Lib.hid (HTA.out false g2)
      clear g2 HOA HTA HOT HTT
      go_enter Try.func44, Try.ntmps44
      go_wp2_with fail
      with_reducible refine HC.out.mono ?_
      rintro e w1 ⟨rfl, hb1⟩
      have x4 := hb1.out.2.c4
      go_wp2_with fail
      with_reducible refine (HC2.out w1 hb1.out.2 hb1.out.1).mono ?_
      rintro e w2 ⟨rfl, hb2⟩
      clear x4
      go_wp2
      go_ret
      exact ⟨by rw [HR.out]; rfl, hb2.out.1⟩
    | true =>
      have HC2 := Lib.hid (HTA.out true g2)
      have HG2 := Lib.hid g2
      clear g2
      cases g3 : Ld.twB (os.map Ld.O.id) with
      | true =>
        have HR := Lib.hid (Ld.world_two l1.out l2.out HG1.out HG2.out (.inl g3))
        have HC3 := Lib.hid (HOT.out true g3)
        clear g3 HOA HTA HOT HTT
        go_enter Try.func44, Try.ntmps44
        go_wp2_with fail
        with_reducible refine HC.out.mono ?_
        rintro e w1 ⟨rfl, hb1⟩
        have x4 := hb1.out.2.c4
        go_wp2_with fail
        with_reducible refine (HC2.out w1 hb1.out.2 hb1.out.1).mono ?_
        rintro e w2 ⟨rfl, hb2⟩
        clear x4
        have x3 := hb2.out.2.c3
        go_wp2_with fail
        with_reducible refine (HC3.out w2 hb2.out.2 hb2.out.1).mono ?_
        rintro e w3 ⟨rfl, hb3⟩
        clear x3
        go_wp2
        go_ret
        exact ⟨by rw [HR.out]; rfl, hb3.out.1⟩
      | false =>
        have HC3 := Lib.hid (HOT.out false g3)
        have HG3 := Lib.hid g3
        clear g3
        cases g4 : Ld.twB (ts.map Ld.T.id) with
        | true =>
          have HR := Lib.hid (Ld.world_two l1.out l2.out HG1.out HG2.out (.inr g4))
          have HC4 := Lib.hid (HTT.out true g4)
          clear g4 HOA HTA HOT HTT
          go_enter Try.func44, Try.ntmps44
          go_wp2_with fail
          with_reducible refine HC.out.mono ?_
          rintro e w1 ⟨rfl, hb1⟩
          have x4 := hb1.out.2.c4
          go_wp2_with fail
          with_reducible refine (HC2.out w1 hb1.out.2 hb1.out.1).mono ?_
          rintro e w2 ⟨rfl, hb2⟩
          clear x4
          have x3 := hb2.out.2.c3
          go_wp2_with fail
          with_reducible refine (HC3.out w2 hb2.out.2 hb2.out.1).mono ?_
          rintro e w3 ⟨rfl, hb3⟩
          clear x3
          have x4 := hb3.out.2.c4
          go_wp2_with fail
          with_reducible refine (HC4.out w3 hb3.out.2 hb3.out.1).mono ?_
          rintro e w4 ⟨rfl, hb4⟩
          clear x4
          go_wp2
          go_ret
          exact ⟨by rw [HR.out]; rfl, hb4.out.1⟩
        | false =>
          have HR := Lib.hid (Ld.world_ok l1.out l2.out HG1.out HG2.out HG3.out g4)
          have HC4 := Lib.hid (HTT.out false g4)
          clear g4 HOA HTA HOT HTT
          go_enter Try.func44, Try.ntmps44
          go_wp2_with fail
          with_reducible refine HC.out.mono ?_
          rintro e w1 ⟨rfl, hb1⟩
          have x4 := hb1.out.2.c4
          go_wp2_with fail
          with_reducible refine (HC2.out w1 hb1.out.2 hb1.out.1).mono ?_
          rintro e w2 ⟨rfl, hb2⟩
          clear x4
          have x3 := hb2.out.2.c3
          go_wp2_with fail
          with_reducible refine (HC3.out w2 hb2.out.2 hb2.out.1).mono ?_
          rintro e w3 ⟨rfl, hb3⟩
          clear x3
          have x4 := hb3.out.2.c4
          go_wp2_with fail
          with_reducible refine (HC4.out w3 hb3.out.2 hb3.out.1).mono ?_
          rintro e w4 ⟨rfl, hb4⟩
          clear x4
          go_wp2
          go_ret
          exact ⟨by rw [HR.out]; rfl, hb4.out.1⟩

theorem world_b (N : Int) (v1 v2 : Value) (A : Option Addr) (m c : Nat) (os : List Ld.O) (B : Option Addr) (k d : Nat) (ts : List Ld.T) (w : World) (r : Int) (hr : Ld.worldE N os ts = r) (hN : N ≤ 9223372036854775807) (hm : os.length = m) (hm2 : m ≤ 1000) (hk : ts.length = k) (hk2 : k ≤ 1000) (hos : OrdersAt w A os) (hts : TrucksAt w B ts) :
    Calls Try.prog 44 #[.agg #[.int .i64 N, v1, v2, .slice A m c, .slice B k d]] w fun e w' => e = .returned (.int .i64 r) ∧ Hid (Below w.heap.size w w') := by
  subst hr
  exact world_val N v1 v2 A m c os B k d ts w hN hm hm2 hk hk2 hos hts

end Go.Proofs.Ytbacakblboodeaa
