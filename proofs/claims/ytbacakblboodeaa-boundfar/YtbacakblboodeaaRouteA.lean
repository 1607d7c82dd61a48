/- Contracts of package route: World, Truck, whether two stops are the same. -/
import Derived.Test.YtbacakblboodeaaRouteMem
namespace Go.Proofs.Ytbacakblboodeaa
open Go.RowKit
set_option linter.unusedVariables false

set_option maxHeartbeats 1000000 in
theorem isTruck (a0 a1 a2 a3 a4 a5 a6 id : Int) (q : Addr) (w : World) (hq : w.cell? q = some (.int .i64 id)) (r : Bool) (hr : (a0 == id) = r) :
    Calls Try.prog 114 #[.agg #[.int .i64 a0, .int .i64 a1, .int .i64 a2, .int .i64 a3, .int .i64 a4, .int .i64 a5, .int .i64 a6], .pointer (some q)] w fun e w' => e = .returned (.bool r) ∧ Hid (Below w.heap.size w w') := by
  have y2 : (w.alloc (.cells #[.int .i64 a0, .int .i64 a1, .int .i64 a2, .int .i64 a3, .int .i64 a4, .int .i64 a5, .int .i64 a6] 59)).cell? q = some (.int .i64 id) := by rw [(below_alloc w _).cell (lt_of_cell hq)]; exact hq
  have HB0 : Hid (Below w.heap.size w (w.alloc (.cells #[.int .i64 a0, .int .i64 a1, .int .i64 a2, .int .i64 a3, .int .i64 a4, .int .i64 a5, .int .i64 a6] 59))) := below_alloc _ _
  clear hq
  cases r
  all_goals
    go_enter Try.func114, Try.ntmps114
    go_wp2
    go_ret
    exact ⟨rfl, HB0.out⟩

set_option maxHeartbeats 2000000 in
set_option maxRecDepth 100000 in
theorem index_truck (A : Option Addr) (m c : Nat) (l : List Ld.T) (id : Int) (q : Addr) (w : World) (r : Int) (hr : Ld.findI (l.map Ld.T.id) id = r) (hm : l.length = m) (hm2 : m ≤ 1000) (hl : TrucksAt w A l) (hq : w.cell? q = some (.int .i64 id)) :
    Calls Try.prog 112 #[.slice A m c, .func (.func 114) #[] #[.pointer (some q)]] w fun e w' => e = .returned (.int .i64 r) ∧ Hid (Below w.heap.size w w') := by
  subst hr
  have HL := Lib.hid hl
  have HM := Lib.hid hm
  have HQ := Lib.hid hq
  have HY : Hid (∀ k : Nat, m ≤ k → (∀ (i : Nat), i < k → (l.map Ld.T.id)[i]? ≠ some id) → Ld.findI (l.map Ld.T.id) id = -1) := fun k hk h => Ld.find_none fun j hj => h j (by rw [List.length_map] at hj; omega)
  have HN : Hid (∀ (k : Nat), (l.map Ld.T.id)[k]? = some id → (∀ (i : Nat), i < k → (l.map Ld.T.id)[i]? ≠ some id) → Ld.findI (l.map Ld.T.id) id = (k : Int)) := fun k h1 h2 => Ld.find_at h1 h2
  clear hl hm hq
  generalize Ld.findI (l.map Ld.T.id) id = r at *
  go_enter Try.func112, Try.ntmps112
  go_wp2_with fail
  go_loopg [4, 8] m (fun gk s4 s8 W => ∃ (k : Nat), k + gk = m ∧ s4 = .int .i64 0 ∧ s8 = .int .i64 k ∧ Hid (Below w.heap.size w W) ∧ Hid (∀ (i : Nat), i < k → (l.map Ld.T.id)[i]? ≠ some id))
  case atStart => exact ⟨0, by omega, rfl, rfl, Below.refl _ _, fun i hi => by omega⟩
  case round =>
    obtain ⟨k, hkg, rfl, rfl, HB, HK⟩ := hrel
    by_cases hlt : k < m
    · obtain ⟨gk, rfl⟩ : ∃ j, gk = j + 1 := ⟨gk - 1, by omega⟩
      obtain ⟨s, hs⟩ := mlist_at l k (by rw [HM.out]; exact hlt)
      obtain ⟨ad, rfl, hc⟩ := (HL.out.below HB.out).at_ hs
      obtain ⟨c0, c1, c2, c3, c4, c5, c6⟩ := hc
      obtain ⟨a0, a1, a2, a3, a4, a5, a6⟩ := s
      simp only at c0 c1 c2 c3 c4 c5 c6
      have hid : (l.map Ld.T.id)[k]? = some a0 := by rw [List.getElem?_map, hs]; rfl
      by_cases h1 : a0 = id
      · have HR := Lib.hid (HN.out k (by rw [hid, h1]) HK.out)
        have HC : Hid (∀ W, Below w.heap.size w W → Calls Try.prog 114 #[.agg #[.int .i64 a0, .int .i64 a1, .int .i64 a2, .int .i64 a3, .int .i64 a4, .int .i64 a5, .int .i64 a6], .pointer (some q)] W fun e w' => e = .returned (.bool true) ∧ Hid (Below w.heap.size w w')) := fun W hb =>
          (isTruck a0 a1 a2 a3 a4 a5 a6 id q W (by rw [hb.cell (lt_of_cell HQ.out)]; exact HQ.out) true (beq_iff_eq.2 h1)).mono fun _ _ ⟨e1, e2⟩ => ⟨e1, below_next hb e2.out⟩
        clear hs hid h1
        go_wp2_with (go_at_call 114; refine (HC.out _ HB.out).mono ?_; rintro e w2 ⟨rfl, hb2⟩)
        go_ret
        exact ⟨by rw [HR.out]; rfl, hb2.out⟩
      · have HC : Hid (∀ W, Below w.heap.size w W → Calls Try.prog 114 #[.agg #[.int .i64 a0, .int .i64 a1, .int .i64 a2, .int .i64 a3, .int .i64 a4, .int .i64 a5, .int .i64 a6], .pointer (some q)] W fun e w' => e = .returned (.bool false) ∧ Hid (Below w.heap.size w w')) := fun W hb =>
          (isTruck a0 a1 a2 a3 a4 a5 a6 id q W (by rw [hb.cell (lt_of_cell HQ.out)]; exact HQ.out) false (beq_eq_false_iff_ne.2 h1)).mono fun _ _ ⟨e1, e2⟩ => ⟨e1, below_next hb e2.out⟩
        have HK2 : Hid (∀ (i : Nat), i < k + 1 → (l.map Ld.T.id)[i]? ≠ some id) := fun i hi => by
          by_cases h : i < k
          · exact HK.out i h
          · obtain rfl : i = k := by omega
            rw [hid]
            exact fun e => h1 (Option.some.inj e)
        clear hs hid h1
        go_wp2_with (go_at_call 114; refine (HC.out _ HB.out).mono ?_; rintro e w2 ⟨rfl, hb2⟩)
        go_roundg gk
        case measure => omega
        case rel => exact ⟨k + 1, by omega, rfl, by first | rfl | go_num, hb2.out, HK2.out⟩
    · have HR := Lib.hid (HY.out k (by omega) HK.out)
      have hk : k = m := by omega
      subst hk
      go_wp2
      go_ret
      exact ⟨by rw [HR.out]; rfl, HB.out⟩

set_option maxHeartbeats 1000000 in
theorem truck_b (x : Wd) (id : Int) (w : World) (r : Int) (hr : Ld.findI (x.ts.map Ld.T.id) id = r) (h : WAt w x) :
    Calls Try.prog 101 #[.agg #[.int .i64 x.N, .slice x.dA x.dm x.dc, .slice x.tA x.tm x.tc, .slice x.A x.m x.c, .slice x.B x.k x.d], .int .i64 id] w fun e w' => e = .returned (.int .i64 r) ∧ Hid (Below w.heap.size w w') := by
  have HB0 : Hid (Below w.heap.size w ((w.alloc (.cells #[.int .i64 x.N, .slice x.dA x.dm x.dc, .slice x.tA x.tm x.tc, .slice x.A x.m x.c, .slice x.B x.k x.d] 28)).alloc (.cells #[.int .i64 id] 3))) := below_more (below_alloc _ _) _
  have HC := Lib.hid (index_truck x.B x.k x.d x.ts id ⟨w.heap.size + 1, 0, none⟩ ((w.alloc (.cells #[.int .i64 x.N, .slice x.dA x.dm x.dc, .slice x.tA x.tm x.tc, .slice x.A x.m x.c, .slice x.B x.k x.d] 28)).alloc (.cells #[.int .i64 id] 3)) r hr h.kl h.k2 (h.ts.below HB0.out) (by rw [size_one w (.cells #[.int .i64 x.N, .slice x.dA x.dm x.dc, .slice x.tA x.tm x.tc, .slice x.A x.m x.c, .slice x.B x.k x.d] 28)]; exact (Box.new _ _ _).cell 0 _ rfl))
  clear h hr
  go_enter Try.func101, Try.ntmps101
  go_wp2_with fail
  with_reducible refine HC.out.mono ?_
  rintro e w2 ⟨rfl, hb2⟩
  go_wp2
  go_ret
  exact ⟨rfl, below_next HB0.out hb2.out⟩

set_option maxHeartbeats 1000000 in
theorem rworld_b (x : Wd) (w : World) (r : Int) (hr : Rt.worldE x.N x.D x.T x.os x.ts = r) (h : WAt w x) :
    Calls Try.prog 19 #[.agg #[.int .i64 x.N, .slice x.dA x.dm x.dc, .slice x.tA x.tm x.tc, .slice x.A x.m x.c, .slice x.B x.k x.d]] w fun e w' => e = .returned (.int .i64 r) ∧ Hid (Below w.heap.size w w') := by
  have HB0 : Hid (Below w.heap.size w (w.alloc (.cells #[.int .i64 x.N, .slice x.dA x.dm x.dc, .slice x.tA x.tm x.tc, .slice x.A x.m x.c, .slice x.B x.k x.d] 28))) := below_alloc _ _
  have HX := Lib.hid (WX.new h)
  clear h
  rcases Rt.check_01 x.N x.D x.T with ⟨h1, _⟩ | ⟨h1, _⟩
  · rw [Rt.world_rest h1] at hr
    have HC := Lib.hid (check_ok (N := x.N) (dc := x.dc) (tc := x.tc) _ 0 h1 HX.out.at_.ar)
    have HC2 : Hid (∀ W, WX W w.heap.size x → Below w.heap.size w W → Calls Try.prog 44 #[.agg #[.int .i64 x.N, .slice x.dA x.dm x.dc, .slice x.tA x.tm x.tc, .slice x.A x.m x.c, .slice x.B x.k x.d]] W fun e w' => e = .returned (.int .i64 r) ∧ Hid (Below w.heap.size w w')) := fun W hx hb =>
      (world_b x.N _ _ x.A x.m x.c x.os x.B x.k x.d x.ts W r hr hx.at_.n hx.at_.ml hx.at_.m2 hx.at_.kl hx.at_.k2 hx.at_.os hx.at_.ts).mono fun _ _ ⟨e1, e2⟩ => ⟨e1, below_next hb e2.out⟩
    clear hr h1
    go_enter Try.func19, Try.ntmps19
    go_wp2_with fail
    with_reducible refine HC.out.mono ?_
    rintro e w1 ⟨rfl, hb1⟩
    have HX1 := Lib.hid (HX.out.below hb1.out)
    have x0 := HX1.out.c0
    have x1 := HX1.out.c1
    have x2 := HX1.out.c2
    have x3 := HX1.out.c3
    have x4 := HX1.out.c4
    go_wp2_with fail
    with_reducible refine (HC2.out w1 HX1.out (below_next HB0.out hb1.out)).mono ?_
    rintro e w2 ⟨rfl, hb2⟩
    clear x0 x1 x2 x3 x4
    go_wp2
    go_ret
    exact ⟨rfl, hb2.out⟩
  · rw [Rt.world_bad h1] at hr
    have HR := Lib.hid hr
    have HC := Lib.hid (check_ok (N := x.N) (dc := x.dc) (tc := x.tc) _ 1 h1 HX.out.at_.ar)
    clear hr h1
    go_enter Try.func19, Try.ntmps19
    go_wp2_with fail
    with_reducible refine HC.out.mono ?_
    rintro e w1 ⟨rfl, hb1⟩
    go_wp2
    go_ret
    exact ⟨by rw [← HR.out]; rfl, below_next HB0.out hb1.out⟩

set_option maxHeartbeats 1000000 in
theorem index_stop (A : Option Addr) (m c : Nat) (l : List Int) (id : Int) (w : World) (hm : l.length = m) (hm2 : m ≤ 1000) (hl : IntsAt w A l) :
    Calls Try.prog 102 #[.slice A m c, .int .i64 id] w fun e w' => e = .returned (.int .i64 (Ld.findI l id)) ∧ w = w' := by
  have HL := Lib.hid hl
  have HM := Lib.hid hm
  have HY : Hid (∀ k : Nat, m ≤ k → (∀ (i : Nat), i < k → l[i]? ≠ some id) → Ld.findI l id = -1) := fun k hk h => Ld.find_none fun j hj => h j (by omega)
  have HN : Hid (∀ (k : Nat), l[k]? = some id → (∀ (i : Nat), i < k → l[i]? ≠ some id) → Ld.findI l id = (k : Int)) := fun k h1 h2 => Ld.find_at h1 h2
  clear hl hm
  generalize Ld.findI l id = r at *
  go_enter Try.func102, Try.ntmps102
  go_wp2_with fail
  go_loopg [4, 8] m (fun gk s4 s8 W => ∃ (k : Nat), k + gk = m ∧ s4 = .int .i64 0 ∧ s8 = .int .i64 k ∧ w = W ∧ Hid (∀ (i : Nat), i < k → l[i]? ≠ some id))
  case atStart => exact ⟨0, by omega, rfl, rfl, rfl, fun i hi => by omega⟩
  case round =>
    obtain ⟨k, hkg, rfl, rfl, rfl, HK⟩ := hrel
    by_cases hlt : k < m
    · obtain ⟨gk, rfl⟩ : ∃ j, gk = j + 1 := ⟨gk - 1, by omega⟩
      obtain ⟨z, hz⟩ := mlist_at l k (by rw [HM.out]; exact hlt)
      obtain ⟨ad, rfl, hc⟩ := HL.out k z hz
      by_cases h1 : id = z
      · have HR := Lib.hid (HN.out k (by rw [hz, h1]) HK.out)
        have d1 : (id == z) = true := beq_iff_eq.2 h1
        clear hz h1
        go_wp2
        go_ret
        exact ⟨by rw [HR.out]; rfl, rfl⟩
      · have d1 : (id == z) = false := beq_eq_false_iff_ne.2 h1
        have HK2 : Hid (∀ (i : Nat), i < k + 1 → l[i]? ≠ some id) := fun i hi => by
          by_cases h : i < k
          · exact HK.out i h
          · obtain rfl : i = k := by omega
            rw [hz]
            exact fun e => h1 (Option.some.inj e).symm
        clear hz h1
        go_wp2
        go_roundg gk
        case measure => omega
        case rel => exact ⟨k + 1, by omega, rfl, by first | rfl | go_num, rfl, HK2.out⟩
    · have HR := Lib.hid (HY.out k (by omega) HK.out)
      have hk : k = m := by omega
      subst hk
      go_wp2
      go_ret
      exact ⟨by rw [HR.out]; rfl, rfl⟩

set_option maxHeartbeats 1000000 in
theorem twice_b (A : Option Addr) (m c : Nat) (l : List Int) (w : World) (r : Bool) (hr : Ld.twB l = r) (hm : l.length = m) (hm2 : m ≤ 1000) (hl : IntsAt w A l) :
    Calls Try.prog 81 #[.slice A m c] w fun e w' => e = .returned (.bool r) ∧ Hid (Below w.heap.size w w') := by
  have HL := Lib.hid hl
  have HM := Lib.hid hm
  have HC : Hid (∀ id, Calls Try.prog 102 #[.slice A m c, .int .i64 id] w fun e w' => e = .returned (.int .i64 (Ld.findI l id)) ∧ w = w') := fun id => index_stop A m c l id w hm hm2 hl
  have HY : Hid (∀ (k : Nat) (id : Int), l[k]? = some id → Ld.findI l id ≠ (k : Int) → r = true) := fun k id hk hf => by
    rcases Ld.find_same hk with h | ⟨j, hj, hjk⟩
    · exact absurd h hf
    · rw [← hr]; exact Ld.tw_yes hj hjk hk
  have HN : Hid (∀ k : Nat, m ≤ k → (∀ (i : Nat) (id : Int), i < k → l[i]? = some id → Ld.findI l id = (i : Int)) → r = false) := fun k hk h => by
    rw [← hr]
    refine Ld.tw_no fun a b x hab ha hb => ?_
    have h1 := h b x (by have := (List.getElem?_eq_some_iff.1 hb).1; omega) hb
    have h2 := Ld.find_less ha
    omega
  clear hl hm hr
  go_enter Try.func81, Try.ntmps81
  go_wp2_with fail
  go_loopg [2, 7] m (fun gk s2 s7 W => ∃ (k : Nat), k + gk = m ∧ s2 = .bool false ∧ s7 = .int .i64 k ∧ w = W ∧ Hid (∀ (i : Nat) (id : Int), i < k → l[i]? = some id → Ld.findI l id = (i : Int)))
  case atStart => exact ⟨0, by omega, rfl, rfl, rfl, fun i id hi => by omega⟩
  case round =>
    obtain ⟨k, hkg, rfl, rfl, rfl, HK⟩ := hrel
    by_cases hlt : k < m
    · obtain ⟨gk, rfl⟩ : ∃ j, gk = j + 1 := ⟨gk - 1, by omega⟩
      obtain ⟨z, hz⟩ := mlist_at l k (by rw [HM.out]; exact hlt)
      obtain ⟨ad, rfl, hc⟩ := HL.out k z hz
      have HC2 := Lib.hid (HC.out z)
      obtain ⟨f, hf⟩ : ∃ f, Ld.findI l z = f := ⟨_, rfl⟩
      rw [hf] at HC2
      by_cases h1 : f = (k : Int)
      · subst h1
        have d1 : ((k : Int) != (k : Int)) = false := by simp
        have HK2 : Hid (∀ (i : Nat) (id : Int), i < k + 1 → l[i]? = some id → Ld.findI l id = (i : Int)) := fun i id hi hid => by
          by_cases h : i < k
          · exact HK.out i id h hid
          · obtain rfl : i = k := by omega
            rw [hz] at hid
            obtain rfl := Option.some.inj hid
            exact hf
        clear hz hf
        go_wp2_with fail
        with_reducible refine HC2.out.mono ?_
        rintro e w2 ⟨rfl, rfl⟩
        go_wp2
        go_roundg gk
        case measure => omega
        case rel => exact ⟨k + 1, by omega, rfl, by first | rfl | go_num, rfl, HK2.out⟩
      · have d1 : (f != (k : Int)) = true := bne_iff_ne.2 h1
        have HR := Lib.hid (HY.out k z hz (by rw [hf]; exact h1))
        clear hz hf h1
        go_wp2_with fail
        with_reducible refine HC2.out.mono ?_
        rintro e w2 ⟨rfl, rfl⟩
        go_wp2
        go_ret
        exact ⟨by rw [HR.out]; rfl, Below.refl _ _⟩
    · have HR := Lib.hid (HN.out k (by omega) HK.out)
      have hk : k = m := by omega
      subst hk
      go_wp2
      go_ret
      exact ⟨by rw [HR.out]; rfl, Below.refl _ _⟩
end Go.Proofs.Ytbacakblboodeaa
