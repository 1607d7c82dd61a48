/- Contracts of package bound: the distance between two nodes, numbers that are up to others, and the least of numbers that a list has. -/
import Derived.Test.YtbacakblboodeaaLoadCut
import Derived.Test.YtbacakblboodeaaRouteA
import Derived.Test.YtbacakblboodeaaMaths
import Derived.Test.YtbacakblboodeaaBndR1
import Derived.Lib.MinMax
namespace Go.Proofs.Ytbacakblboodeaa
open Go.RowKit
set_option linter.unusedVariables false
set_option maxRecDepth 100000

theorem sizeTs (W : World) : (sizeOf (Try.prog.elem 26)).run Try.prog W = .ok 7 W := by kernel_rfl
theorem TrucksAt.drop {W : World} {A : Option Addr} {l : List Ld.T} (h : TrucksAt W A l) (k : Nat) : TrucksAt W (A.map (·.add (k * 7))) (l.drop k) := by
  intro j z hz
  rw [drop_flat _ 7 tints_len, List.getElem?_drop] at hz
  obtain ⟨ad, e, hc⟩ := h _ z hz
  subst e
  refine ⟨ad.add (k * 7), rfl, ?_⟩
  rw [add_plus]
  exact hc
theorem back_ts (A : Option Addr) (n c k : Nat) (hnc : n ≤ c) (hk : k ≤ n) :
    ∃ A' c', (∀ W : World, (Instr.slice 26 (.slice A n c) (some (.int .i64 (k : Int))) none none).run Try.prog W = .ok (.slice A' (n - k) c') W) ∧
      ∀ (W : World) (l : List Ld.T), l.length = n → TrucksAt W A l → TrucksAt W A' (l.drop k) := by
  refine ⟨if c = k then A else A.map (·.add (k * 7)), c - k, fun W => ?_, fun W l hl h => ?_⟩
  · rw [run_slice_l W 26 A n c (by kernel_rfl) .i64 _ (by omega) (by omega), sizeTs W]
    simp [sliced, Result.andThen]
  · by_cases e : k = n
    · rw [List.drop_eq_nil_of_le (by omega)]
      exact IntsAt.nil _ _
    · rw [if_neg (by omega)]
      exact h.drop k

set_option maxHeartbeats 1000000 in
theorem upTo_b (n m : Int) (w : World) (r : Bool) (hr : Bo.up n m = r) :
    Calls Try.prog 36 #[.int .i64 n, .int .i64 m] w fun e w' => e = .returned (.bool r) ∧ w = w' := by
  subst hr
  by_cases h1 : 0 ≤ n
  · by_cases h2 : n ≤ m
    · have e : Bo.up n m = true := by simp [Bo.up, h1, h2]
      have d1 : decide ((0 : Int) ≤ n) = true := decide_eq_true h1
      have d2 : decide (n ≤ m) = true := decide_eq_true h2
      rw [e]
      go_enter Try.func36, Try.ntmps36
      go_wp2
      go_ret
      exact ⟨rfl, rfl⟩
    · have e : Bo.up n m = false := by simp [Bo.up, h2]
      have d1 : decide ((0 : Int) ≤ n) = true := decide_eq_true h1
      have d2 : decide (n ≤ m) = false := decide_eq_false h2
      rw [e]
      go_enter Try.func36, Try.ntmps36
      go_wp2
      go_ret
      exact ⟨rfl, rfl⟩
  · have e : Bo.up n m = false := by simp [Bo.up, h1]
    have d1 : decide ((0 : Int) ≤ n) = false := decide_eq_false h1
    rw [e]
    go_enter Try.func36, Try.ntmps36
    go_wp2
    go_ret
    exact ⟨rfl, rfl⟩

set_option maxHeartbeats 1000000 in
theorem far_b (N : Int) (dA : Option Addr) (dm dc : Nat) (D : List Int) (tA : Option Addr) (tm tc : Nat) (T : List Int) (f t r : Int) (w : World) (h : AreaAt w dA dm D tA tm T) (hr : (Ar.legS N D T f t).1 = r) :
    Calls Try.prog 23 #[.agg #[.int .i64 N, .slice dA dm dc, .slice tA tm tc], .int .i64 f, .int .i64 t] w fun e w' => e = .returned (.int .i64 r) ∧ Hid (Below w.heap.size w w') := by
  subst hr
  have HB0 : Hid (Below w.heap.size w (w.alloc (.cells #[.int .i64 N, .slice dA dm dc, .slice tA tm tc] 24))) := below_alloc _ _
  have HC := Lib.hid (leg_any N dA dm dc D tA tm tc T f t _ (h.below HB0.out))
  have HX : Hid (Boxed (w.alloc (.cells #[.int .i64 N, .slice dA dm dc, .slice tA tm tc] 24)) w.heap.size N dA dm dc D tA tm tc T) := Boxed.new h
  clear h
  go_enter Try.func23, Try.ntmps23
  have x0 := HX.out.c0
  have x1 := HX.out.c1
  have x2 := HX.out.c2
  go_wp2_with fail
  with_reducible refine HC.out.mono ?_
  rintro e w1 ⟨rfl, hb1⟩
  clear x0 x1 x2
  have HB1 := Lib.hid (below_next HB0.out hb1)
  clear hb1
  go_wp2
  go_ret
  exact ⟨rfl, HB1.out⟩

set_option maxHeartbeats 1000000 in
/-- the distance home from an order's node -/
theorem back1_b (x : Wd) (b : Nat) (a0 a1 a2 a3 a4 a5 a6 a7 r : Int) (w : World) (hx : WX w b x) (hr : (Ar.legS x.N x.D x.T a2 0).1 = r) :
    Calls Try.prog 22 #[.agg #[.int .i64 a0, .int .i64 a1, .int .i64 a2, .int .i64 a3, .int .i64 a4, .int .i64 a5, .int .i64 a6, .int .i64 a7], .pointer (some ⟨b, 0, none⟩)] w fun e w' => e = .returned (.int .i64 r) ∧ Hid (Below w.heap.size w w') := by
  have HB0 : Hid (Below w.heap.size w (w.alloc (.cells #[.int .i64 a0, .int .i64 a1, .int .i64 a2, .int .i64 a3, .int .i64 a4, .int .i64 a5, .int .i64 a6, .int .i64 a7] 57))) := below_alloc _ _
  have HX : Hid (WX (w.alloc (.cells #[.int .i64 a0, .int .i64 a1, .int .i64 a2, .int .i64 a3, .int .i64 a4, .int .i64 a5, .int .i64 a6, .int .i64 a7] 57)) b x) := hx.below HB0.out
  have HO : Hid (Box (w.alloc (.cells #[.int .i64 a0, .int .i64 a1, .int .i64 a2, .int .i64 a3, .int .i64 a4, .int .i64 a5, .int .i64 a6, .int .i64 a7] 57)) w.heap.size #[.int .i64 a0, .int .i64 a1, .int .i64 a2, .int .i64 a3, .int .i64 a4, .int .i64 a5, .int .i64 a6, .int .i64 a7] 57) := Box.new _ _ _
  have HC := Lib.hid (far_b x.N x.dA x.dm x.dc x.D x.tA x.tm x.tc x.T a2 0 r _ HX.out.at_.ar hr)
  clear hx hr
  go_enter Try.func22, Try.ntmps22
  have x0 := HX.out.c0
  have x1 := HX.out.c1
  have x2 := HX.out.c2
  have y0 := HO.out.cell 2 _ rfl
  go_wp2_with fail
  with_reducible refine HC.out.mono ?_
  rintro e w1 ⟨rfl, hb1⟩
  clear x0 x1 x2 y0
  have HB1 := Lib.hid (below_next HB0.out hb1.out)
  clear hb1
  go_wp2
  go_ret
  exact ⟨rfl, HB1.out⟩

set_option maxHeartbeats 1000000 in
theorem num_rate (a0 a1 a2 a3 a4 a5 a6 : Int) (w : World) :
    Calls Try.prog 25 #[.agg #[.int .i64 a0, .int .i64 a1, .int .i64 a2, .int .i64 a3, .int .i64 a4, .int .i64 a5, .int .i64 a6]] w fun e w' => e = .returned (.int .i64 a6) ∧ Hid (Below w.heap.size w w') := by
  go_enter Try.func25, Try.ntmps25
  go_wp2
  go_ret
  exact ⟨rfl, below_alloc _ _⟩

set_option maxHeartbeats 1000000 in
theorem num_fixed (a0 a1 a2 a3 a4 a5 a6 : Int) (w : World) :
    Calls Try.prog 26 #[.agg #[.int .i64 a0, .int .i64 a1, .int .i64 a2, .int .i64 a3, .int .i64 a4, .int .i64 a5, .int .i64 a6]] w fun e w' => e = .returned (.int .i64 a5) ∧ Hid (Below w.heap.size w w') := by
  go_enter Try.func26, Try.ntmps26
  go_wp2
  go_ret
  exact ⟨rfl, below_alloc _ _⟩

set_option maxHeartbeats 4000000 in
theorem least_o (F : Ld.O → Int) (p : Addr) (A : Option Addr) (m c : Nat) (l : List Ld.O) (w : World) (r : Int) (hr : Bo.lst (l.map F) = r) (hm : l.length = m) (hm2 : m ≤ 1000) (hmc : m ≤ c) (hl : OrdersAt w A l)
    (HF : Hid (∀ s ∈ l, ∀ W, Below w.heap.size w W → Calls Try.prog 22 #[.agg #[.int .i64 s.id, .int .i64 s.owner, .int .i64 s.node, .int .i64 s.weight, .int .i64 s.volume, .int .i64 s.frm, .int .i64 s.to, .int .i64 s.service], .pointer (some p)] W fun e w' => e = .returned (.int .i64 (F s)) ∧ Hid (Below W.heap.size W w'))) :
    Calls Try.prog 21 #[.slice A m c, .func (.func 22) #[] #[.pointer (some p)]] w fun e w' => e = .returned (.int .i64 r) ∧ Hid (Below w.heap.size w w') := by
  have HL := Lib.hid hl
  have HM := Lib.hid hm
  have HR := Lib.hid hr
  clear hl hm hr
  by_cases h0 : m = 0
  · subst h0
    have HZ : Hid (r = 0) := by
      obtain rfl : l = [] := List.length_eq_zero_iff.1 HM.out
      exact HR.out.symm
    go_enter Try.func21, Try.ntmps21
    go_wp2_with fail
    go_ret
    exact ⟨by rw [HZ.out]; rfl, Below.refl _ _⟩
  · have d0 : ((m : Int) == 0) = false := beq_eq_false_iff_ne.2 (by omega)
    have i0 : (0 : Int) < (m : Int) := by omega
    obtain ⟨s, hs⟩ := mlist_at l 0 (by rw [HM.out]; omega)
    obtain ⟨m1, hm1⟩ : ∃ j, m = j + 1 := ⟨m - 1, by omega⟩
    obtain ⟨A', c', hsl, hrow⟩ := back_os A m c 1 hmc (by omega)
    rw [show m - 1 = m1 by omega] at hsl
    have hsl' : ∀ W : World, (Instr.slice 25 (.slice A m c) (some (.int .i64 1)) none none).run Try.prog W = .ok (.slice A' m1 c') W := hsl
    have HROW : Hid (∀ W, Below w.heap.size w W → OrdersAt W A' (l.drop 1)) := fun W hb => hrow W l HM.out (HL.out.below hb)
    clear hsl hrow
    have hfs : (l.map F)[0]? = some (F s) := by rw [List.getElem?_map, hs]; rfl
    have HST : Hid (Bo.lst ((l.map F).take 1) = F s) := by
      unfold Hid
      rw [show (1 : Nat) = 0 + 1 from rfl, List.take_add_one, hfs]
      rfl
    have HFI := Lib.hid (HF.out s (List.mem_of_getElem? hs) w (Below.refl _ _))
    obtain ⟨ad, hA, hc⟩ := HL.out.at_ hs
    have HA := Lib.hid hA
    clear hfs hA hs
    obtain rfl := HA.out
    rw [Nat.zero_mul, show ad.add 0 = ad from by cases ad; simp [Addr.add]] at hc
    generalize hz : F s = z at *
    clear hz
    obtain ⟨c0, c1, c2, c3, c4, c5, c6, c7⟩ := hc
    obtain ⟨a0, a1, a2, a3, a4, a5, a6, a7⟩ := s
    simp only at c0 c1 c2 c3 c4 c5 c6 c7
    have hm1b : m1 ≤ 1000 := by omega
    have HM1 : Hid (m = m1 + 1) := hm1
    clear hm1
    go_enter Try.func21, Try.ntmps21
    go_wp2_with fail
    with_reducible refine HFI.out.mono ?_
    rintro e w1 ⟨rfl, hb1⟩
    have HB1 := Lib.hid hb1.out
    clear hb1 HFI c0 c1 c2 c3 c4 c5 c6 c7
    go_wp2_with fail
    go_loopg [5, 19] m1 (fun gk s5 s19 W => ∃ (k : Nat) (y : Int), k + gk = m1 ∧ s5 = .int .i64 y ∧ s19 = .int .i64 k ∧ Hid (Below w.heap.size w W) ∧ Hid (Bo.lst ((l.map F).take (k + 1)) = y))
    case atStart => exact ⟨0, _, by omega, rfl, rfl, HB1.out, HST.out⟩
    case round =>
      obtain ⟨k, y, hkg, rfl, rfl, HB, HY⟩ := hrel
      by_cases hlt : k < m1
      · obtain ⟨gk, rfl⟩ : ∃ j, gk = j + 1 := ⟨gk - 1, by omega⟩
        have i2 : (k : Int) < (m1 : Int) := by omega
        obtain ⟨s, hs⟩ := mlist_at l (k + 1) (by rw [HM.out, HM1.out]; omega)
        have hs' : (l.drop 1)[k]? = some s := by rw [List.getElem?_drop, Nat.add_comm]; exact hs
        have hfs : (l.map F)[k + 1]? = some (F s) := by rw [List.getElem?_map, hs]; rfl
        have HY2 : Hid (Bo.lst ((l.map F).take (k + 1 + 1)) = min y (F s)) := by unfold Hid; rw [Bo.lst_take hfs (Nat.succ_pos k), HY.out]
        have HFI : Hid (∀ W, Below w.heap.size w W → Calls Try.prog 22 #[.agg #[.int .i64 s.id, .int .i64 s.owner, .int .i64 s.node, .int .i64 s.weight, .int .i64 s.volume, .int .i64 s.frm, .int .i64 s.to, .int .i64 s.service], .pointer (some p)] W fun e w' => e = .returned (.int .i64 (F s)) ∧ Hid (Below w.heap.size w w')) := fun W hb => (HF.out s (List.mem_of_getElem? hs) W hb).mono fun _ _ ⟨e1, e2⟩ => ⟨e1, below_next hb e2.out⟩
        obtain ⟨ad2, hA2, hc⟩ := (HROW.out _ HB.out).at_ hs'
        have HA2 := Lib.hid hA2
        clear hfs hA2 hs hs'
        obtain rfl := HA2.out
        generalize hz : F s = z at *
        clear hz
        obtain ⟨c0, c1, c2, c3, c4, c5, c6, c7⟩ := hc
        obtain ⟨a0, a1, a2, a3, a4, a5, a6, a7⟩ := s
        simp only at c0 c1 c2 c3 c4 c5 c6 c7
        go_wp2_with fail
        with_reducible refine (HFI.out _ (below_more HB.out _)).mono ?_
        rintro e w2 ⟨rfl, hb2⟩
        clear HFI c0 c1 c2 c3 c4 c5 c6 c7
        go_wp2
        go_roundg gk
        case measure => omega
        case rel => exact ⟨k + 1, _, by omega, rfl, by first | rfl | go_num, hb2.out, HY2.out⟩
      · have hk : k = m1 := by omega
        subst hk
        have HZ : Hid (y = r) := by
          unfold Hid
          rw [← HY.out, ← HR.out, List.take_of_length_le (by rw [List.length_map, HM.out, HM1.out]; exact Nat.le_refl _)]
        go_wp2
        go_ret
        exact ⟨by rw [HZ.out]; rfl, HB.out⟩

set_option maxHeartbeats 4000000 in
theorem least_rate (A : Option Addr) (m c : Nat) (l : List Ld.T) (w : World) (r : Int) (hr : Bo.lst (l.map Ld.T.rate) = r) (hm : l.length = m) (hm2 : m ≤ 1000) (hmc : m ≤ c) (hl : TrucksAt w A l) :
    Calls Try.prog 24 #[.slice A m c, .func (.func 25) #[] #[]] w fun e w' => e = .returned (.int .i64 r) ∧ Hid (Below w.heap.size w w') := by
  have HL := Lib.hid hl
  have HM := Lib.hid hm
  have HR := Lib.hid hr
  clear hl hm hr
  by_cases h0 : m = 0
  · subst h0
    have HZ : Hid (r = 0) := by
      obtain rfl : l = [] := List.length_eq_zero_iff.1 HM.out
      exact HR.out.symm
    go_enter Try.func24, Try.ntmps24
    go_wp2_with fail
    go_ret
    exact ⟨by rw [HZ.out]; rfl, Below.refl _ _⟩
  · have d0 : ((m : Int) == 0) = false := beq_eq_false_iff_ne.2 (by omega)
    have i0 : (0 : Int) < (m : Int) := by omega
    obtain ⟨s, hs⟩ := mlist_at l 0 (by rw [HM.out]; omega)
    obtain ⟨m1, hm1⟩ : ∃ j, m = j + 1 := ⟨m - 1, by omega⟩
    obtain ⟨A', c', hsl, hrow⟩ := back_ts A m c 1 hmc (by omega)
    rw [show m - 1 = m1 by omega] at hsl
    have hsl' : ∀ W : World, (Instr.slice 26 (.slice A m c) (some (.int .i64 1)) none none).run Try.prog W = .ok (.slice A' m1 c') W := hsl
    have HROW : Hid (∀ W, Below w.heap.size w W → TrucksAt W A' (l.drop 1)) := fun W hb => hrow W l HM.out (HL.out.below hb)
    clear hsl hrow
    have hfs : (l.map Ld.T.rate)[0]? = some (s.rate) := by rw [List.getElem?_map, hs]; rfl
    have HST : Hid (Bo.lst ((l.map Ld.T.rate).take 1) = s.rate) := by
      unfold Hid
      rw [show (1 : Nat) = 0 + 1 from rfl, List.take_add_one, hfs]
      rfl
    have HFI := Lib.hid (num_rate s.id s.weight s.volume s.start s.fin s.fixed s.rate w)
    obtain ⟨ad, hA, hc⟩ := HL.out.at_ hs
    have HA := Lib.hid hA
    clear hfs hA hs
    obtain rfl := HA.out
    rw [Nat.zero_mul, show ad.add 0 = ad from by cases ad; simp [Addr.add]] at hc
    obtain ⟨c0, c1, c2, c3, c4, c5, c6⟩ := hc
    obtain ⟨a0, a1, a2, a3, a4, a5, a6⟩ := s
    simp only at c0 c1 c2 c3 c4 c5 c6 HFI HST
    have hm1b : m1 ≤ 1000 := by omega
    have HM1 : Hid (m = m1 + 1) := hm1
    clear hm1
    go_enter Try.func24, Try.ntmps24
    go_wp2_with fail
    with_reducible refine HFI.out.mono ?_
    rintro e w1 ⟨rfl, hb1⟩
    have HB1 := Lib.hid hb1.out
    clear hb1 HFI c0 c1 c2 c3 c4 c5 c6
    go_wp2_with fail
    go_loopg [5, 19] m1 (fun gk s5 s19 W => ∃ (k : Nat) (y : Int), k + gk = m1 ∧ s5 = .int .i64 y ∧ s19 = .int .i64 k ∧ Hid (Below w.heap.size w W) ∧ Hid (Bo.lst ((l.map Ld.T.rate).take (k + 1)) = y))
    case atStart => exact ⟨0, _, by omega, rfl, rfl, HB1.out, HST.out⟩
    case round =>
      obtain ⟨k, y, hkg, rfl, rfl, HB, HY⟩ := hrel
      by_cases hlt : k < m1
      · obtain ⟨gk, rfl⟩ : ∃ j, gk = j + 1 := ⟨gk - 1, by omega⟩
        have i2 : (k : Int) < (m1 : Int) := by omega
        obtain ⟨s, hs⟩ := mlist_at l (k + 1) (by rw [HM.out, HM1.out]; omega)
        have hs' : (l.drop 1)[k]? = some s := by rw [List.getElem?_drop, Nat.add_comm]; exact hs
        have hfs : (l.map Ld.T.rate)[k + 1]? = some (s.rate) := by rw [List.getElem?_map, hs]; rfl
        have HY2 : Hid (Bo.lst ((l.map Ld.T.rate).take (k + 1 + 1)) = min y (s.rate)) := by unfold Hid; rw [Bo.lst_take hfs (Nat.succ_pos k), HY.out]
        have HFI : Hid (∀ W, Below w.heap.size w W → Calls Try.prog 25 #[.agg #[.int .i64 s.id, .int .i64 s.weight, .int .i64 s.volume, .int .i64 s.start, .int .i64 s.fin, .int .i64 s.fixed, .int .i64 s.rate]] W fun e w' => e = .returned (.int .i64 (s.rate)) ∧ Hid (Below w.heap.size w w')) := fun W hb => (num_rate s.id s.weight s.volume s.start s.fin s.fixed s.rate W).mono fun _ _ ⟨e1, e2⟩ => ⟨e1, below_next hb e2.out⟩
        obtain ⟨ad2, hA2, hc⟩ := (HROW.out _ HB.out).at_ hs'
        have HA2 := Lib.hid hA2
        clear hfs hA2 hs hs'
        obtain rfl := HA2.out
        obtain ⟨c0, c1, c2, c3, c4, c5, c6⟩ := hc
        obtain ⟨a0, a1, a2, a3, a4, a5, a6⟩ := s
        simp only at c0 c1 c2 c3 c4 c5 c6 HFI HY2
        go_wp2_with fail
        with_reducible refine (HFI.out _ (below_more HB.out _)).mono ?_
        rintro e w2 ⟨rfl, hb2⟩
        clear HFI c0 c1 c2 c3 c4 c5 c6
        go_wp2
        go_roundg gk
        case measure => omega
        case rel => exact ⟨k + 1, _, by omega, rfl, by first | rfl | go_num, hb2.out, HY2.out⟩
      · have hk : k = m1 := by omega
        subst hk
        have HZ : Hid (y = r) := by
          unfold Hid
          rw [← HY.out, ← HR.out, List.take_of_length_le (by rw [List.length_map, HM.out, HM1.out]; exact Nat.le_refl _)]
        go_wp2
        go_ret
        exact ⟨by rw [HZ.out]; rfl, HB.out⟩

set_option maxHeartbeats 4000000 in
theorem least_fixed (A : Option Addr) (m c : Nat) (l : List Ld.T) (w : World) (r : Int) (hr : Bo.lst (l.map Ld.T.fixed) = r) (hm : l.length = m) (hm2 : m ≤ 1000) (hmc : m ≤ c) (hl : TrucksAt w A l) :
    Calls Try.prog 24 #[.slice A m c, .func (.func 26) #[] #[]] w fun e w' => e = .returned (.int .i64 r) ∧ Hid (Below w.heap.size w w') := by
  have HL := Lib.hid hl
  have HM := Lib.hid hm
  have HR := Lib.hid hr
  clear hl hm hr
  by_cases h0 : m = 0
  · subst h0
    have HZ : Hid (r = 0) := by
      obtain rfl : l = [] := List.length_eq_zero_iff.1 HM.out
      exact HR.out.symm
    go_enter Try.func24, Try.ntmps24
    go_wp2_with fail
    go_ret
    exact ⟨by rw [HZ.out]; rfl, Below.refl _ _⟩
  · have d0 : ((m : Int) == 0) = false := beq_eq_false_iff_ne.2 (by omega)
    have i0 : (0 : Int) < (m : Int) := by omega
    obtain ⟨s, hs⟩ := mlist_at l 0 (by rw [HM.out]; omega)
    obtain ⟨m1, hm1⟩ : ∃ j, m = j + 1 := ⟨m - 1, by omega⟩
    obtain ⟨A', c', hsl, hrow⟩ := back_ts A m c 1 hmc (by omega)
    rw [show m - 1 = m1 by omega] at hsl
    have hsl' : ∀ W : World, (Instr.slice 26 (.slice A m c) (some (.int .i64 1)) none none).run Try.prog W = .ok (.slice A' m1 c') W := hsl
    have HROW : Hid (∀ W, Below w.heap.size w W → TrucksAt W A' (l.drop 1)) := fun W hb => hrow W l HM.out (HL.out.below hb)
    clear hsl hrow
    have hfs : (l.map Ld.T.fixed)[0]? = some (s.fixed) := by rw [List.getElem?_map, hs]; rfl
    have HST : Hid (Bo.lst ((l.map Ld.T.fixed).take 1) = s.fixed) := by
      unfold Hid
      rw [show (1 : Nat) = 0 + 1 from rfl, List.take_add_one, hfs]
      rfl
    have HFI := Lib.hid (num_fixed s.id s.weight s.volume s.start s.fin s.fixed s.rate w)
    obtain ⟨ad, hA, hc⟩ := HL.out.at_ hs
    have HA := Lib.hid hA
    clear hfs hA hs
    obtain rfl := HA.out
    rw [Nat.zero_mul, show ad.add 0 = ad from by cases ad; simp [Addr.add]] at hc
    obtain ⟨c0, c1, c2, c3, c4, c5, c6⟩ := hc
    obtain ⟨a0, a1, a2, a3, a4, a5, a6⟩ := s
    simp only at c0 c1 c2 c3 c4 c5 c6 HFI HST
    have hm1b : m1 ≤ 1000 := by omega
    have HM1 : Hid (m = m1 + 1) := hm1
    clear hm1
    go_enter Try.func24, Try.ntmps24
    go_wp2_with fail
    with_reducible refine HFI.out.mono ?_
    rintro e w1 ⟨rfl, hb1⟩
    have HB1 := Lib.hid hb1.out
    clear hb1 HFI c0 c1 c2 c3 c4 c5 c6
    go_wp2_with fail
    go_loopg [5, 19] m1 (fun gk s5 s19 W => ∃ (k : Nat) (y : Int), k + gk = m1 ∧ s5 = .int .i64 y ∧ s19 = .int .i64 k ∧ Hid (Below w.heap.size w W) ∧ Hid (Bo.lst ((l.map Ld.T.fixed).take (k + 1)) = y))
    case atStart => exact ⟨0, _, by omega, rfl, rfl, HB1.out, HST.out⟩
    case round =>
      obtain ⟨k, y, hkg, rfl, rfl, HB, HY⟩ := hrel
      by_cases hlt : k < m1
      · obtain ⟨gk, rfl⟩ : ∃ j, gk = j + 1 := ⟨gk - 1, by omega⟩
        have i2 : (k : Int) < (m1 : Int) := by omega
        obtain ⟨s, hs⟩ := mlist_at l (k + 1) (by rw [HM.out, HM1.out]; omega)
        have hs' : (l.drop 1)[k]? = some s := by rw [List.getElem?_drop, Nat.add_comm]; exact hs
        have hfs : (l.map Ld.T.fixed)[k + 1]? = some (s.fixed) := by rw [List.getElem?_map, hs]; rfl
        have HY2 : Hid (Bo.lst ((l.map Ld.T.fixed).take (k + 1 + 1)) = min y (s.fixed)) := by unfold Hid; rw [Bo.lst_take hfs (Nat.succ_pos k), HY.out]
        have HFI : Hid (∀ W, Below w.heap.size w W → Calls Try.prog 26 #[.agg #[.int .i64 s.id, .int .i64 s.weight, .int .i64 s.volume, .int .i64 s.start, .int .i64 s.fin, .int .i64 s.fixed, .int .i64 s.rate]] W fun e w' => e = .returned (.int .i64 (s.fixed)) ∧ Hid (Below w.heap.size w w')) := fun W hb => (num_fixed s.id s.weight s.volume s.start s.fin s.fixed s.rate W).mono fun _ _ ⟨e1, e2⟩ => ⟨e1, below_next hb e2.out⟩
        obtain ⟨ad2, hA2, hc⟩ := (HROW.out _ HB.out).at_ hs'
        have HA2 := Lib.hid hA2
        clear hfs hA2 hs hs'
        obtain rfl := HA2.out
        obtain ⟨c0, c1, c2, c3, c4, c5, c6⟩ := hc
        obtain ⟨a0, a1, a2, a3, a4, a5, a6⟩ := s
        simp only at c0 c1 c2 c3 c4 c5 c6 HFI HY2
        go_wp2_with fail
        with_reducible refine (HFI.out _ (below_more HB.out _)).mono ?_
        rintro e w2 ⟨rfl, hb2⟩
        clear HFI c0 c1 c2 c3 c4 c5 c6
        go_wp2
        go_roundg gk
        case measure => omega
        case rel => exact ⟨k + 1, _, by omega, rfl, by first | rfl | go_num, hb2.out, HY2.out⟩
      · have hk : k = m1 := by omega
        subst hk
        have HZ : Hid (y = r) := by
          unfold Hid
          rw [← HY.out, ← HR.out, List.take_of_length_le (by rw [List.length_map, HM.out, HM1.out]; exact Nat.le_refl _)]
        go_wp2
        go_ret
        exact ⟨by rw [HZ.out]; rfl, HB.out⟩

theorem IntsAt.at_i {w : World} {A : Option Addr} {l : List Int} (h : IntsAt w A l) {k : Nat} {z : Int} (hz : l[k]? = some z) : ∃ ad, A = some ad ∧ w.cell? (ad.add k) = some (.int .i64 z) := h k z hz

set_option maxHeartbeats 4000000 in
theorem least_i (F : Int → Int) (p q u : Addr) (A : Option Addr) (m c : Nat) (l : List Int) (w : World) (r : Int) (hr : Bo.lst (l.map F) = r) (hm : l.length = m) (hm2 : m ≤ 1000) (hmc : m ≤ c) (hl : IntsAt w A l)
    (HF : Hid (∀ s ∈ l, ∀ W, Below w.heap.size w W → Calls Try.prog 49 #[.int .i64 s, .pointer (some p), .pointer (some q), .pointer (some u)] W fun e w' => e = .returned (.int .i64 (F s)) ∧ Hid (Below W.heap.size W w'))) :
    Calls Try.prog 48 #[.slice A m c, .func (.func 49) #[] #[.pointer (some p), .pointer (some q), .pointer (some u)]] w fun e w' => e = .returned (.int .i64 r) ∧ Hid (Below w.heap.size w w') := by
  have HL := Lib.hid hl
  have HM := Lib.hid hm
  have HR := Lib.hid hr
  clear hl hm hr
  by_cases h0 : m = 0
  · subst h0
    have HZ : Hid (r = 0) := by
      obtain rfl : l = [] := List.length_eq_zero_iff.1 HM.out
      exact HR.out.symm
    go_enter Try.func48, Try.ntmps48
    go_wp2_with fail
    go_ret
    exact ⟨by rw [HZ.out]; rfl, Below.refl _ _⟩
  · have d0 : ((m : Int) == 0) = false := beq_eq_false_iff_ne.2 (by omega)
    have i0 : (0 : Int) < (m : Int) := by omega
    obtain ⟨s, hs⟩ := mlist_at l 0 (by rw [HM.out]; omega)
    obtain ⟨m1, hm1⟩ : ∃ j, m = j + 1 := ⟨m - 1, by omega⟩
    obtain ⟨A', c', hsl, hrow⟩ := back_is A m c 1 hmc (by omega)
    rw [show m - 1 = m1 by omega] at hsl
    have hsl' : ∀ W : World, (Instr.slice 29 (.slice A m c) (some (.int .i64 1)) none none).run Try.prog W = .ok (.slice A' m1 c') W := hsl
    have HROW : Hid (∀ W, Below w.heap.size w W → IntsAt W A' (l.drop 1)) := fun W hb => hrow W l HM.out (HL.out.below hb)
    clear hsl hrow
    have hfs : (l.map F)[0]? = some (F s) := by rw [List.getElem?_map, hs]; rfl
    have HST : Hid (Bo.lst ((l.map F).take 1) = F s) := by
      unfold Hid
      rw [show (1 : Nat) = 0 + 1 from rfl, List.take_add_one, hfs]
      rfl
    have HFI := Lib.hid (HF.out s (List.mem_of_getElem? hs) w (Below.refl _ _))
    obtain ⟨ad, hA, hc⟩ := HL.out.at_i hs
    have HA := Lib.hid hA
    clear hfs hA hs
    obtain rfl := HA.out
    rw [show ad.add 0 = ad from by cases ad; simp [Addr.add]] at hc
    generalize hz : F s = z at *
    clear hz
    have hm1b : m1 ≤ 1000 := by omega
    have HM1 : Hid (m = m1 + 1) := hm1
    clear hm1
    go_enter Try.func48, Try.ntmps48
    go_wp2_with fail
    with_reducible refine HFI.out.mono ?_
    rintro e w1 ⟨rfl, hb1⟩
    have HB1 := Lib.hid hb1.out
    clear hb1 HFI hc
    go_wp2_with fail
    go_loopg [5, 19] m1 (fun gk s5 s19 W => ∃ (k : Nat) (y : Int), k + gk = m1 ∧ s5 = .int .i64 y ∧ s19 = .int .i64 k ∧ Hid (Below w.heap.size w W) ∧ Hid (Bo.lst ((l.map F).take (k + 1)) = y))
    case atStart => exact ⟨0, _, by omega, rfl, rfl, HB1.out, HST.out⟩
    case round =>
      obtain ⟨k, y, hkg, rfl, rfl, HB, HY⟩ := hrel
      by_cases hlt : k < m1
      · obtain ⟨gk, rfl⟩ : ∃ j, gk = j + 1 := ⟨gk - 1, by omega⟩
        have i2 : (k : Int) < (m1 : Int) := by omega
        obtain ⟨s, hs⟩ := mlist_at l (k + 1) (by rw [HM.out, HM1.out]; omega)
        have hs' : (l.drop 1)[k]? = some s := by rw [List.getElem?_drop, Nat.add_comm]; exact hs
        have hfs : (l.map F)[k + 1]? = some (F s) := by rw [List.getElem?_map, hs]; rfl
        have HY2 : Hid (Bo.lst ((l.map F).take (k + 1 + 1)) = min y (F s)) := by unfold Hid; rw [Bo.lst_take hfs (Nat.succ_pos k), HY.out]
        have HFI : Hid (∀ W, Below w.heap.size w W → Calls Try.prog 49 #[.int .i64 s, .pointer (some p), .pointer (some q), .pointer (some u)] W fun e w' => e = .returned (.int .i64 (F s)) ∧ Hid (Below w.heap.size w w')) := fun W hb => (HF.out s (List.mem_of_getElem? hs) W hb).mono fun _ _ ⟨e1, e2⟩ => ⟨e1, below_next hb e2.out⟩
        obtain ⟨ad2, hA2, hc⟩ := (HROW.out _ HB.out).at_i hs'
        have HA2 := Lib.hid hA2
        clear hfs hA2 hs hs'
        obtain rfl := HA2.out
        generalize hz : F s = z at *
        clear hz
        go_wp2_with fail
        with_reducible refine (HFI.out _ HB.out).mono ?_
        rintro e w2 ⟨rfl, hb2⟩
        clear HFI hc
        go_wp2
        go_roundg gk
        case measure => omega
        case rel => exact ⟨k + 1, _, by omega, rfl, by first | rfl | go_num, hb2.out, HY2.out⟩
      · have hk : k = m1 := by omega
        subst hk
        have HZ : Hid (y = r) := by
          unfold Hid
          rw [← HY.out, ← HR.out, List.take_of_length_le (by rw [List.length_map, HM.out, HM1.out]; exact Nat.le_refl _)]
        go_wp2
        go_ret
        exact ⟨by rw [HZ.out]; rfl, HB.out⟩

end Go.Proofs.Ytbacakblboodeaa
