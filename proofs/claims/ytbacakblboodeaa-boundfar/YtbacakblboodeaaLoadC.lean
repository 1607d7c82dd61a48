/- Contracts of package load: where an order or a truck is, and whether two have the same Id. -/
import Derived.Test.YtbacakblboodeaaLoadB
namespace Go.Proofs.Ytbacakblboodeaa
open Go.RowKit
set_option linter.unusedVariables false

set_option maxHeartbeats 2000000 in
set_option maxRecDepth 100000 in
theorem index_o (A : Option Addr) (m c : Nat) (l : List Ld.O) (id : Int) (p q : Addr) (w : World) (hm : l.length = m) (hm2 : m ≤ 1000) (hl : OrdersAt w A l) (hp : w.cell? p = some (.func (.func 69) #[] #[])) (hq : w.cell? q = some (.int .i64 id)) :
    Calls Try.prog 98 #[.slice A m c, .func (.func 99) #[] #[.pointer (some p), .pointer (some q)]] w fun e w' => e = .returned (.int .i64 (Ld.findI (l.map Ld.O.id) id)) ∧ Below w.heap.size w w' := by
  have HL := Lib.hid hl
  have HM := Lib.hid hm
  have HP := Lib.hid hp
  have HQ := Lib.hid hq
  have HY : Hid (∀ k : Nat, m ≤ k → (∀ (i : Nat), i < k → (l.map Ld.O.id)[i]? ≠ some id) → Ld.findI (l.map Ld.O.id) id = -1) := fun k hk h => Ld.find_none fun j hj => h j (by rw [List.length_map] at hj; omega)
  have HN : Hid (∀ (k : Nat), (l.map Ld.O.id)[k]? = some id → (∀ (i : Nat), i < k → (l.map Ld.O.id)[i]? ≠ some id) → Ld.findI (l.map Ld.O.id) id = (k : Int)) := fun k h1 h2 => Ld.find_at h1 h2
  clear hl hm hp hq
  generalize Ld.findI (l.map Ld.O.id) id = r at *
  go_enter Try.func98, Try.ntmps98
  go_wp2_with fail
  go_loopg [4, 8] m (fun gk s4 s8 W => ∃ (k : Nat), k + gk = m ∧ s4 = .int .i64 0 ∧ s8 = .int .i64 k ∧ Hid (Below w.heap.size w W) ∧ Hid (∀ (i : Nat), i < k → (l.map Ld.O.id)[i]? ≠ some id))
  case atStart => exact ⟨0, by omega, rfl, rfl, Below.refl _ _, fun i hi => by omega⟩
  case round =>
    obtain ⟨k, hkg, rfl, rfl, HB, HK⟩ := hrel
    by_cases hlt : k < m
    · obtain ⟨gk, rfl⟩ : ∃ j, gk = j + 1 := ⟨gk - 1, by omega⟩
      obtain ⟨s, hs⟩ := mlist_at l k (by rw [HM.out]; exact hlt)
      obtain ⟨ad, rfl, hc⟩ := (HL.out.below HB.out).at_ hs
      obtain ⟨c0, c1, c2, c3, c4, c5, c6, c7⟩ := hc
      obtain ⟨a0, a1, a2, a3, a4, a5, a6, a7⟩ := s
      simp only at c0 c1 c2 c3 c4 c5 c6 c7
      have hid : (l.map Ld.O.id)[k]? = some a0 := by rw [List.getElem?_map, hs]; rfl
      by_cases h1 : a0 = id
      · have HR := Lib.hid (HN.out k (by rw [hid, h1]) HK.out)
        have HC : Hid (∀ W, Below w.heap.size w W → Calls Try.prog 99 #[.agg #[.int .i64 a0, .int .i64 a1, .int .i64 a2, .int .i64 a3, .int .i64 a4, .int .i64 a5, .int .i64 a6, .int .i64 a7], .pointer (some p), .pointer (some q)] W fun e w' => e = .returned (.bool true) ∧ Hid (Below w.heap.size w w')) := fun W hb =>
          (isId_o a0 a1 a2 a3 a4 a5 a6 a7 id p q W (by rw [hb.cell (lt_of_cell HP.out)]; exact HP.out) (by rw [hb.cell (lt_of_cell HQ.out)]; exact HQ.out) true (beq_iff_eq.2 h1)).mono fun _ _ ⟨e1, e2⟩ => ⟨e1, below_next hb e2.out⟩
        clear hs hid h1
        go_wp2_with (go_at_call 99; refine (HC.out _ HB.out).mono ?_; rintro e w2 ⟨rfl, hb2⟩)
        go_ret
        exact ⟨by rw [HR.out]; rfl, hb2.out⟩
      · have HC : Hid (∀ W, Below w.heap.size w W → Calls Try.prog 99 #[.agg #[.int .i64 a0, .int .i64 a1, .int .i64 a2, .int .i64 a3, .int .i64 a4, .int .i64 a5, .int .i64 a6, .int .i64 a7], .pointer (some p), .pointer (some q)] W fun e w' => e = .returned (.bool false) ∧ Hid (Below w.heap.size w w')) := fun W hb =>
          (isId_o a0 a1 a2 a3 a4 a5 a6 a7 id p q W (by rw [hb.cell (lt_of_cell HP.out)]; exact HP.out) (by rw [hb.cell (lt_of_cell HQ.out)]; exact HQ.out) false (beq_eq_false_iff_ne.2 h1)).mono fun _ _ ⟨e1, e2⟩ => ⟨e1, below_next hb e2.out⟩
        have HK2 : Hid (∀ (i : Nat), i < k + 1 → (l.map Ld.O.id)[i]? ≠ some id) := fun i hi => by
          by_cases h : i < k
          · exact HK.out i h
          · obtain rfl : i = k := by omega
            rw [hid]
            exact fun e => h1 (Option.some.inj e)
        clear hs hid h1
        go_wp2_with (go_at_call 99; refine (HC.out _ HB.out).mono ?_; rintro e w2 ⟨rfl, hb2⟩)
        go_roundg gk
        case measure => omega
        case rel => exact ⟨k + 1, by omega, rfl, by first | rfl | go_num, hb2.out, HK2.out⟩
    · have HR := Lib.hid (HY.out k (by omega) HK.out)
      have hk : k = m := by omega
      subst hk
      go_wp2
      go_ret
      exact ⟨by rw [HR.out]; rfl, HB.out⟩

theorem boxed2_o (w : World) (id : Int) (v : Value) (t1 t2 : TypeId) : ((w.alloc (.cells #[.int .i64 id] t1)).alloc (.cells #[v] t2)).cell? ⟨w.heap.size, 0, none⟩ = some (.int .i64 id) ∧ ((w.alloc (.cells #[.int .i64 id] t1)).alloc (.cells #[v] t2)).cell? ⟨w.heap.size + 1, 0, none⟩ = some v := by
  refine ⟨?_, ?_⟩
  · exact ((Box.new w _ _).below (below_alloc _ _)).cell 0 _ rfl
  · rw [size_one w (.cells #[.int .i64 id] t1)]
    exact (Box.new (w.alloc (.cells #[.int .i64 id] t1)) _ _).cell 0 _ rfl

set_option maxHeartbeats 1000000 in
theorem first_o (A : Option Addr) (m c : Nat) (l : List Ld.O) (id : Int) (w : World) (r : Int) (hr : Ld.findI (l.map Ld.O.id) id = r) (hm : l.length = m) (hm2 : m ≤ 1000) (hl : OrdersAt w A l) :
    Calls Try.prog 72 #[.slice A m c, .int .i64 id, .func (.func 69) #[] #[]] w fun e w' => e = .returned (.int .i64 r) ∧ Hid (Below w.heap.size w w') := by
  have HC := Lib.hid (index_o A m c l id ⟨w.heap.size + 1, 0, none⟩ ⟨w.heap.size, 0, none⟩ _ hm hm2 (hl.below (below_more (below_alloc w (.cells #[.int .i64 id] 3)) (.cells #[.func (.func 69) #[] #[]] 110))) (boxed2_o _ _ _ _ _).2 (boxed2_o _ _ _ _ _).1)
  have HR := Lib.hid hr
  clear hl hm hr
  go_enter Try.func72, Try.ntmps72
  go_wp2_with (go_at_call 98; refine HC.out.mono ?_; rintro e w2 ⟨rfl, hb2⟩)
  go_ret
  exact ⟨by rw [HR.out]; rfl, below_box (below_box hb2)⟩

set_option maxHeartbeats 2000000 in
set_option maxRecDepth 100000 in
theorem two_o (A : Option Addr) (m c : Nat) (l : List Ld.O) (w : World) (hm : l.length = m) (hm2 : m ≤ 1000) (hl : OrdersAt w A l) :
    Calls Try.prog 68 #[.slice A m c, .func (.func 69) #[] #[]] w fun e w' => e = .returned (.bool (Ld.twB (l.map Ld.O.id))) ∧ Below w.heap.size w w' := by
  have HL := Lib.hid hl
  have HM := Lib.hid hm
  have HY : Hid (∀ k : Nat, m ≤ k → (∀ (i : Nat) x, i < k → (l.map Ld.O.id)[i]? = some x → Ld.findI (l.map Ld.O.id) x = (i : Int)) → Ld.twB (l.map Ld.O.id) = false) := fun k hk h => Ld.tw_no fun a b x hab ha hb => by
    have la := (List.getElem?_eq_some_iff.1 hb).1
    rw [List.length_map] at la
    have e1 := h a x (by omega) ha
    have e2 := h b x (by omega) hb
    omega
  have HN : Hid (∀ (k : Nat) x, (l.map Ld.O.id)[k]? = some x → Ld.findI (l.map Ld.O.id) x ≠ (k : Int) → Ld.twB (l.map Ld.O.id) = true) := fun k x h1 h2 => by
    rcases Ld.find_same h1 with h | ⟨j, hj, h⟩
    · exact absurd h h2
    · exact Ld.tw_yes hj h h1
  clear hl hm
  generalize Ld.twB (l.map Ld.O.id) = r at *
  go_enter Try.func68, Try.ntmps68
  go_wp2_with fail
  go_loopg [4, 9] m (fun gk s4 s9 W => ∃ (k : Nat), k + gk = m ∧ s4 = .bool false ∧ s9 = .int .i64 k ∧ Hid (Below w.heap.size w W) ∧ Hid (∀ (i : Nat) x, i < k → (l.map Ld.O.id)[i]? = some x → Ld.findI (l.map Ld.O.id) x = (i : Int)))
  case atStart => exact ⟨0, by omega, rfl, rfl, Below.refl _ _, fun i x hi => by omega⟩
  case round =>
    obtain ⟨k, hkg, rfl, rfl, HB, HK⟩ := hrel
    by_cases hlt : k < m
    · obtain ⟨gk, rfl⟩ : ∃ j, gk = j + 1 := ⟨gk - 1, by omega⟩
      obtain ⟨s, hs⟩ := mlist_at l k (by rw [HM.out]; exact hlt)
      obtain ⟨ad, rfl, hc⟩ := (HL.out.below HB.out).at_ hs
      obtain ⟨c0, c1, c2, c3, c4, c5, c6, c7⟩ := hc
      obtain ⟨a0, a1, a2, a3, a4, a5, a6, a7⟩ := s
      simp only at c0 c1 c2 c3 c4 c5 c6 c7
      have hid : (l.map Ld.O.id)[k]? = some a0 := by rw [List.getElem?_map, hs]; rfl
      have HI : Hid (∀ W, Below w.heap.size w W → Calls Try.prog 69 #[.agg #[.int .i64 a0, .int .i64 a1, .int .i64 a2, .int .i64 a3, .int .i64 a4, .int .i64 a5, .int .i64 a6, .int .i64 a7]] W fun e w' => e = .returned (.int .i64 a0) ∧ Hid (Below w.heap.size w w')) := fun W hb =>
        (idOf_o a0 a1 a2 a3 a4 a5 a6 a7 W).mono fun _ _ ⟨e1, e2⟩ => ⟨e1, below_next hb e2⟩
      obtain ⟨f, hf⟩ : ∃ f, Ld.findI (l.map Ld.O.id) a0 = f := ⟨_, rfl⟩
      have HC : Hid (∀ W, Below w.heap.size w W → Calls Try.prog 72 #[.slice (some ad) m c, .int .i64 a0, .func (.func 69) #[] #[]] W fun e w' => e = .returned (.int .i64 f) ∧ Hid (Below w.heap.size w w')) := fun W hb =>
        (first_o (some ad) m c l a0 W f hf HM.out hm2 (HL.out.below hb)).mono fun _ _ ⟨e1, e2⟩ => ⟨e1, below_next hb e2.out⟩
      have HB2 := Lib.hid (below_more HB.out)
      by_cases h1 : f = (k : Int)
      · have d1 : (f != (k : Int)) = false := by rw [h1]; simp
        have HK2 : Hid (∀ (i : Nat) x, i < k + 1 → (l.map Ld.O.id)[i]? = some x → Ld.findI (l.map Ld.O.id) x = (i : Int)) := fun i x hi hx => by
          by_cases h : i < k
          · exact HK.out i x h hx
          · obtain rfl : i = k := by omega
            rw [hid] at hx
            obtain rfl := Option.some.inj hx
            rw [hf, h1]
        clear hs hid h1 hf
        go_wp2_with (first | (go_at_call 69; refine (HI.out _ (HB2.out _)).mono ?_; rintro e w2 ⟨rfl, hb2⟩) | (go_at_call 72; refine (HC.out _ hb2.out).mono ?_; rintro e w3 ⟨rfl, hb3⟩))
        go_roundg gk
        case measure => omega
        case rel => exact ⟨k + 1, by omega, rfl, by first | rfl | go_num, hb3.out, HK2.out⟩
      · have d1 : (f != (k : Int)) = true := bne_iff_ne.2 h1
        have HR := Lib.hid (HN.out k a0 hid (by rw [hf]; exact h1))
        clear hs hid h1 hf
        go_wp2_with (first | (go_at_call 69; refine (HI.out _ (HB2.out _)).mono ?_; rintro e w2 ⟨rfl, hb2⟩) | (go_at_call 72; refine (HC.out _ hb2.out).mono ?_; rintro e w3 ⟨rfl, hb3⟩))
        go_ret
        exact ⟨by rw [HR.out]; rfl, hb3.out⟩
    · have HR := Lib.hid (HY.out k (by omega) HK.out)
      have hk : k = m := by omega
      subst hk
      go_wp2
      go_ret
      exact ⟨by rw [HR.out]; rfl, HB.out⟩

set_option maxHeartbeats 2000000 in
set_option maxRecDepth 100000 in
theorem index_t (A : Option Addr) (m c : Nat) (l : List Ld.T) (id : Int) (p q : Addr) (w : World) (hm : l.length = m) (hm2 : m ≤ 1000) (hl : TrucksAt w A l) (hp : w.cell? p = some (.func (.func 71) #[] #[])) (hq : w.cell? q = some (.int .i64 id)) :
    Calls Try.prog 112 #[.slice A m c, .func (.func 113) #[] #[.pointer (some p), .pointer (some q)]] w fun e w' => e = .returned (.int .i64 (Ld.findI (l.map Ld.T.id) id)) ∧ Below w.heap.size w w' := by
  have HL := Lib.hid hl
  have HM := Lib.hid hm
  have HP := Lib.hid hp
  have HQ := Lib.hid hq
  have HY : Hid (∀ k : Nat, m ≤ k → (∀ (i : Nat), i < k → (l.map Ld.T.id)[i]? ≠ some id) → Ld.findI (l.map Ld.T.id) id = -1) := fun k hk h => Ld.find_none fun j hj => h j (by rw [List.length_map] at hj; omega)
  have HN : Hid (∀ (k : Nat), (l.map Ld.T.id)[k]? = some id → (∀ (i : Nat), i < k → (l.map Ld.T.id)[i]? ≠ some id) → Ld.findI (l.map Ld.T.id) id = (k : Int)) := fun k h1 h2 => Ld.find_at h1 h2
  clear hl hm hp hq
  generalize Ld.findI (l.map Ld.T.id) id = r at *
  go_enter Try.func112, Try.ntmps112
  go_wp2_with fail
  go_loopg [4, 8] m (fun gk s4 s8 W => ∃ (k : Nat), k + gk = m ∧ s4 = .int .i64 0 ∧ s8 = .int .i64 k ∧ Hid (Below w.heap.size w W) ∧ Hid (∀ (i : Nat), i < k → (l.map Ld.T.id)[i]? ≠ some id))
  case atStart => exact ⟨0, by omega, rfl, rfl, Below.refl _ _, fun i hi => by omega⟩
  case round =>
    obtain ⟨k, hkg, rfl, rfl, HB, HK⟩ := hrel
    by_cases hlt : k < m
    · obtain ⟨gk, rfl⟩ : ∃ j, gk = j + 1 := ⟨gk - 1, by omega⟩
      obtain ⟨s, hs⟩ := mlist_at l k (by rw [HM.out]; exact hlt)
      obtain ⟨ad, rfl, hc⟩ := (HL.out.below HB.out).at_ hs
      obtain ⟨c0, c1, c2, c3, c4, c5, c6⟩ := hc
      obtain ⟨a0, a1, a2, a3, a4, a5, a6⟩ := s
      simp only at c0 c1 c2 c3 c4 c5 c6
      have hid : (l.map Ld.T.id)[k]? = some a0 := by rw [List.getElem?_map, hs]; rfl
      by_cases h1 : a0 = id
      · have HR := Lib.hid (HN.out k (by rw [hid, h1]) HK.out)
        have HC : Hid (∀ W, Below w.heap.size w W → Calls Try.prog 113 #[.agg #[.int .i64 a0, .int .i64 a1, .int .i64 a2, .int .i64 a3, .int .i64 a4, .int .i64 a5, .int .i64 a6], .pointer (some p), .pointer (some q)] W fun e w' => e = .returned (.bool true) ∧ Hid (Below w.heap.size w w')) := fun W hb =>
          (isId_t a0 a1 a2 a3 a4 a5 a6 id p q W (by rw [hb.cell (lt_of_cell HP.out)]; exact HP.out) (by rw [hb.cell (lt_of_cell HQ.out)]; exact HQ.out) true (beq_iff_eq.2 h1)).mono fun _ _ ⟨e1, e2⟩ => ⟨e1, below_next hb e2.out⟩
        clear hs hid h1
        go_wp2_with (go_at_call 113; refine (HC.out _ HB.out).mono ?_; rintro e w2 ⟨rfl, hb2⟩)
        go_ret
        exact ⟨by rw [HR.out]; rfl, hb2.out⟩
      · have HC : Hid (∀ W, Below w.heap.size w W → Calls Try.prog 113 #[.agg #[.int .i64 a0, .int .i64 a1, .int .i64 a2, .int .i64 a3, .int .i64 a4, .int .i64 a5, .int .i64 a6], .pointer (some p), .pointer (some q)] W fun e w' => e = .returned (.bool false) ∧ Hid (Below w.heap.size w w')) := fun W hb =>
          (isId_t a0 a1 a2 a3 a4 a5 a6 id p q W (by rw [hb.cell (lt_of_cell HP.out)]; exact HP.out) (by rw [hb.cell (lt_of_cell HQ.out)]; exact HQ.out) false (beq_eq_false_iff_ne.2 h1)).mono fun _ _ ⟨e1, e2⟩ => ⟨e1, below_next hb e2.out⟩
        have HK2 : Hid (∀ (i : Nat), i < k + 1 → (l.map Ld.T.id)[i]? ≠ some id) := fun i hi => by
          by_cases h : i < k
          · exact HK.out i h
          · obtain rfl : i = k := by omega
            rw [hid]
            exact fun e => h1 (Option.some.inj e)
        clear hs hid h1
        go_wp2_with (go_at_call 113; refine (HC.out _ HB.out).mono ?_; rintro e w2 ⟨rfl, hb2⟩)
        go_roundg gk
        case measure => omega
        case rel => exact ⟨k + 1, by omega, rfl, by first | rfl | go_num, hb2.out, HK2.out⟩
    · have HR := Lib.hid (HY.out k (by omega) HK.out)
      have hk : k = m := by omega
      subst hk
      go_wp2
      go_ret
      exact ⟨by rw [HR.out]; rfl, HB.out⟩

theorem boxed2_t (w : World) (id : Int) (v : Value) (t1 t2 : TypeId) : ((w.alloc (.cells #[.int .i64 id] t1)).alloc (.cells #[v] t2)).cell? ⟨w.heap.size, 0, none⟩ = some (.int .i64 id) ∧ ((w.alloc (.cells #[.int .i64 id] t1)).alloc (.cells #[v] t2)).cell? ⟨w.heap.size + 1, 0, none⟩ = some v := by
  refine ⟨?_, ?_⟩
  · exact ((Box.new w _ _).below (below_alloc _ _)).cell 0 _ rfl
  · rw [size_one w (.cells #[.int .i64 id] t1)]
    exact (Box.new (w.alloc (.cells #[.int .i64 id] t1)) _ _).cell 0 _ rfl

set_option maxHeartbeats 1000000 in
theorem first_t (A : Option Addr) (m c : Nat) (l : List Ld.T) (id : Int) (w : World) (r : Int) (hr : Ld.findI (l.map Ld.T.id) id = r) (hm : l.length = m) (hm2 : m ≤ 1000) (hl : TrucksAt w A l) :
    Calls Try.prog 97 #[.slice A m c, .int .i64 id, .func (.func 71) #[] #[]] w fun e w' => e = .returned (.int .i64 r) ∧ Hid (Below w.heap.size w w') := by
  have HC := Lib.hid (index_t A m c l id ⟨w.heap.size + 1, 0, none⟩ ⟨w.heap.size, 0, none⟩ _ hm hm2 (hl.below (below_more (below_alloc w (.cells #[.int .i64 id] 3)) (.cells #[.func (.func 71) #[] #[]] 112))) (boxed2_t _ _ _ _ _).2 (boxed2_t _ _ _ _ _).1)
  have HR := Lib.hid hr
  clear hl hm hr
  go_enter Try.func97, Try.ntmps97
  go_wp2_with (go_at_call 112; refine HC.out.mono ?_; rintro e w2 ⟨rfl, hb2⟩)
  go_ret
  exact ⟨by rw [HR.out]; rfl, below_box (below_box hb2)⟩

set_option maxHeartbeats 2000000 in
set_option maxRecDepth 100000 in
theorem two_t (A : Option Addr) (m c : Nat) (l : List Ld.T) (w : World) (hm : l.length = m) (hm2 : m ≤ 1000) (hl : TrucksAt w A l) :
    Calls Try.prog 70 #[.slice A m c, .func (.func 71) #[] #[]] w fun e w' => e = .returned (.bool (Ld.twB (l.map Ld.T.id))) ∧ Below w.heap.size w w' := by
  have HL := Lib.hid hl
  have HM := Lib.hid hm
  have HY : Hid (∀ k : Nat, m ≤ k → (∀ (i : Nat) x, i < k → (l.map Ld.T.id)[i]? = some x → Ld.findI (l.map Ld.T.id) x = (i : Int)) → Ld.twB (l.map Ld.T.id) = false) := fun k hk h => Ld.tw_no fun a b x hab ha hb => by
    have la := (List.getElem?_eq_some_iff.1 hb).1
    rw [List.length_map] at la
    have e1 := h a x (by omega) ha
    have e2 := h b x (by omega) hb
    omega
  have HN : Hid (∀ (k : Nat) x, (l.map Ld.T.id)[k]? = some x → Ld.findI (l.map Ld.T.id) x ≠ (k : Int) → Ld.twB (l.map Ld.T.id) = true) := fun k x h1 h2 => by
    rcases Ld.find_same h1 with h | ⟨j, hj, h⟩
    · exact absurd h h2
    · exact Ld.tw_yes hj h h1
  clear hl hm
  generalize Ld.twB (l.map Ld.T.id) = r at *
  go_enter Try.func70, Try.ntmps70
  go_wp2_with fail
  go_loopg [4, 9] m (fun gk s4 s9 W => ∃ (k : Nat), k + gk = m ∧ s4 = .bool false ∧ s9 = .int .i64 k ∧ Hid (Below w.heap.size w W) ∧ Hid (∀ (i : Nat) x, i < k → (l.map Ld.T.id)[i]? = some x → Ld.findI (l.map Ld.T.id) x = (i : Int)))
  case atStart => exact ⟨0, by omega, rfl, rfl, Below.refl _ _, fun i x hi => by omega⟩
  case round =>
    obtain ⟨k, hkg, rfl, rfl, HB, HK⟩ := hrel
    by_cases hlt : k < m
    · obtain ⟨gk, rfl⟩ : ∃ j, gk = j + 1 := ⟨gk - 1, by omega⟩
      obtain ⟨s, hs⟩ := mlist_at l k (by rw [HM.out]; exact hlt)
      obtain ⟨ad, rfl, hc⟩ := (HL.out.below HB.out).at_ hs
      obtain ⟨c0, c1, c2, c3, c4, c5, c6⟩ := hc
      obtain ⟨a0, a1, a2, a3, a4, a5, a6⟩ := s
      simp only at c0 c1 c2 c3 c4 c5 c6
      have hid : (l.map Ld.T.id)[k]? = some a0 := by rw [List.getElem?_map, hs]; rfl
      have HI : Hid (∀ W, Below w.heap.size w W → Calls Try.prog 71 #[.agg #[.int .i64 a0, .int .i64 a1, .int .i64 a2, .int .i64 a3, .int .i64 a4, .int .i64 a5, .int .i64 a6]] W fun e w' => e = .returned (.int .i64 a0) ∧ Hid (Below w.heap.size w w')) := fun W hb =>
        (idOf_t a0 a1 a2 a3 a4 a5 a6 W).mono fun _ _ ⟨e1, e2⟩ => ⟨e1, below_next hb e2⟩
      obtain ⟨f, hf⟩ : ∃ f, Ld.findI (l.map Ld.T.id) a0 = f := ⟨_, rfl⟩
      have HC : Hid (∀ W, Below w.heap.size w W → Calls Try.prog 97 #[.slice (some ad) m c, .int .i64 a0, .func (.func 71) #[] #[]] W fun e w' => e = .returned (.int .i64 f) ∧ Hid (Below w.heap.size w w')) := fun W hb =>
        (first_t (some ad) m c l a0 W f hf HM.out hm2 (HL.out.below hb)).mono fun _ _ ⟨e1, e2⟩ => ⟨e1, below_next hb e2.out⟩
      have HB2 := Lib.hid (below_more HB.out)
      by_cases h1 : f = (k : Int)
      · have d1 : (f != (k : Int)) = false := by rw [h1]; simp
        have HK2 : Hid (∀ (i : Nat) x, i < k + 1 → (l.map Ld.T.id)[i]? = some x → Ld.findI (l.map Ld.T.id) x = (i : Int)) := fun i x hi hx => by
          by_cases h : i < k
          · exact HK.out i x h hx
          · obtain rfl : i = k := by omega
            rw [hid] at hx
            obtain rfl := Option.some.inj hx
            rw [hf, h1]
        clear hs hid h1 hf
        go_wp2_with (first | (go_at_call 71; refine (HI.out _ (HB2.out _)).mono ?_; rintro e w2 ⟨rfl, hb2⟩) | (go_at_call 97; refine (HC.out _ hb2.out).mono ?_; rintro e w3 ⟨rfl, hb3⟩))
        go_roundg gk
        case measure => omega
        case rel => exact ⟨k + 1, by omega, rfl, by first | rfl | go_num, hb3.out, HK2.out⟩
      · have d1 : (f != (k : Int)) = true := bne_iff_ne.2 h1
        have HR := Lib.hid (HN.out k a0 hid (by rw [hf]; exact h1))
        clear hs hid h1 hf
        go_wp2_with (first | (go_at_call 71; refine (HI.out _ (HB2.out _)).mono ?_; rintro e w2 ⟨rfl, hb2⟩) | (go_at_call 97; refine (HC.out _ hb2.out).mono ?_; rintro e w3 ⟨rfl, hb3⟩))
        go_ret
        exact ⟨by rw [HR.out]; rfl, hb3.out⟩
    · have HR := Lib.hid (HY.out k (by omega) HK.out)
      have hk : k = m := by omega
      subst hk
      go_wp2
      go_ret
      exact ⟨by rw [HR.out]; rfl, HB.out⟩

end Go.Proofs.Ytbacakblboodeaa
