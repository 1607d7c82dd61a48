/- The document's Same, of numbers and of certificates. -/
import Derived.Test.YtbacakblboodeaaBndE
import Derived.Test.YtbacakblboodeaaPlanL
namespace Go.Proofs.Ytbacakblboodeaa
open Go.RowKit
set_option linter.unusedVariables false
set_option maxRecDepth 100000

set_option maxHeartbeats 1000000 in
theorem rints_b (A B : Option Addr) (n c m d : Nat) (a b : List Int) (w : World) (r : Bool) (hr : decide (a = b) = r) (hn : a.length = n) (hm : b.length = m) (hn2 : n ≤ 100000) (hm2 : m ≤ 100000) (ha : IntsAt w A a) (hb : IntsAt w B b) :
    Calls Try.prog 34 #[.slice A n c, .slice B m d] w fun e w' => e = .returned (.bool r) ∧ ∃ q, w' = w.drewN q := by
  have HN := Lib.hid hn
  have HM := Lib.hid hm
  have HA := Lib.hid ha
  have HB := Lib.hid hb
  by_cases hnm : n = m
  · have HR : Hid (∀ k : Nat, (∀ i : Nat, i < k → a[i]? = b[i]?) → n ≤ k → r = true) := fun k hk hnk => by
      rw [← hr, decide_eq_true_iff]
      apply List.ext_getElem?
      intro i
      by_cases hi : i < n
      · exact hk i (by omega)
      · rw [List.getElem?_eq_none (by omega), List.getElem?_eq_none (by omega)]
    have HF : Hid (∀ k : Nat, a[k]? ≠ b[k]? → r = false) := fun k hk => by
      rw [← hr, decide_eq_false_iff_not]
      exact fun e => hk (by rw [e])
    subst hnm
    have d1 : ((n : Int) != (n : Int)) = false := by simp
    clear ha hb hr hn hm
    go_enter Try.func34, Try.ntmps34
    go_wp2
    go_loopg [4, 5] n (fun gk s4 s5 W => ∃ (k q : Nat), k + gk = n ∧ s4 = .bool false ∧ s5 = .int .i64 k ∧ W = w.drewN q ∧ Hid (∀ i : Nat, i < k → a[i]? = b[i]?))
    case atStart => exact ⟨0, 0, by omega, rfl, rfl, rfl, fun i hi => by omega⟩
    case round =>
      obtain ⟨k, q, hkg, rfl, rfl, rfl, HK⟩ := hrel
      by_cases hlt : k < n
      · obtain ⟨gk, rfl⟩ : ∃ j, gk = j + 1 := ⟨gk - 1, by omega⟩
        obtain ⟨x, hx⟩ := mlist_at a k (by rw [HN.out]; exact hlt)
        obtain ⟨y, hy⟩ := mlist_at b k (by rw [HM.out]; exact hlt)
        obtain ⟨ad, rfl, hc0⟩ := HA.out k x hx
        obtain ⟨bd, rfl, hd0⟩ := HB.out k y hy
        have hc1 : (w.drewN q).cell? (ad.add k) = some (.int .i64 x) := by simpa using hc0
        have hd1 : (w.drewN q).cell? (bd.add k) = some (.int .i64 y) := by simpa using hd0
        have i1 : (0 : Int) ≤ (k : Int) := by omega
        have i2 : (k : Int) < (n : Int) := by omega
        have HW : Hid (∀ m, (w.drewN q).drewN m = w.drewN (q + m)) := fun m => by simp
        by_cases hxy : x = y
        · have heq : (x != y) = false := by rw [hxy]; simp
          have HK2 : Hid (∀ i : Nat, i < k + 1 → a[i]? = b[i]?) := fun i hi => by
            by_cases h : i < k
            · exact HK.out i h
            · obtain rfl : i = k := by omega
              rw [hx, hy, hxy]
          clear hx hy hxy hc0 hd0
          generalize w.drewN q = W at *
          go_wp2
          go_quiet (fail)
          go_wp2
          go_roundg gk
          case measure => omega
          case rel => exact ⟨k + 1, _, by omega, rfl, by first | rfl | go_num, HW.out _, HK2.out⟩
        · have heq : (x != y) = true := bne_iff_ne.2 hxy
          have HF2 := Lib.hid (HF.out k (by rw [hx, hy]; exact fun e => hxy (Option.some.inj e)))
          clear hx hy hxy hc0 hd0
          generalize w.drewN q = W at *
          go_wp2
          go_quiet (fail)
          go_wp2
          go_ret
          exact ⟨by rw [HF2.out]; rfl, _, HW.out _⟩
      · have HR2 := Lib.hid (HR.out k HK.out (by omega))
        have hk : k = n := by omega
        subst hk
        go_wp2
        go_ret
        exact ⟨by rw [HR2.out]; rfl, _, rfl⟩
  · have HF : Hid (r = false) := by rw [← hr]; exact decide_eq_false (fun e => hnm (by rw [← hn, ← hm, e]))
    have d1 : ((n : Int) != (m : Int)) = true := bne_iff_ne.2 (by omega)
    clear hnm ha hb hr hn hm
    go_enter Try.func34, Try.ntmps34
    go_wp2
    go_ret
    exact ⟨by rw [HF.out]; rfl, 0, rfl⟩

set_option maxHeartbeats 8000000 in
theorem csame_b (p q : Ct) (w : World) (r : Bool) (hr : r = true ↔ p.c = q.c) (hp : CtAt w p) (hq : CtAt w q) :
    Calls Try.prog 11 #[.agg #[.slice p.iA p.im p.ic, .slice p.nA p.nm p.nc, .int .i64 p.back, .int .i64 p.rate, .int .i64 p.fixed, .int .i64 p.bound], .agg #[.slice q.iA q.im q.ic, .slice q.nA q.nm q.nc, .int .i64 q.back, .int .i64 q.rate, .int .i64 q.fixed, .int .i64 q.bound]] w fun e w' => e = .returned (.bool r) ∧ Hid (Below w.heap.size w w') := by
  have HP : Hid (Box ((w.alloc (.cells #[.slice p.iA p.im p.ic, .slice p.nA p.nm p.nc, .int .i64 p.back, .int .i64 p.rate, .int .i64 p.fixed, .int .i64 p.bound] 37)).alloc (.cells #[.slice q.iA q.im q.ic, .slice q.nA q.nm q.nc, .int .i64 q.back, .int .i64 q.rate, .int .i64 q.fixed, .int .i64 q.bound] 37)) w.heap.size #[.slice p.iA p.im p.ic, .slice p.nA p.nm p.nc, .int .i64 p.back, .int .i64 p.rate, .int .i64 p.fixed, .int .i64 p.bound] 37 ∧ CtAt ((w.alloc (.cells #[.slice p.iA p.im p.ic, .slice p.nA p.nm p.nc, .int .i64 p.back, .int .i64 p.rate, .int .i64 p.fixed, .int .i64 p.bound] 37)).alloc (.cells #[.slice q.iA q.im q.ic, .slice q.nA q.nm q.nc, .int .i64 q.back, .int .i64 q.rate, .int .i64 q.fixed, .int .i64 q.bound] 37)) p) := ⟨(Box.new w _ _).below (below_alloc _ _), (hp.below (below_alloc _ _)).below (below_alloc _ _)⟩
  have HQ : Hid (Box ((w.alloc (.cells #[.slice p.iA p.im p.ic, .slice p.nA p.nm p.nc, .int .i64 p.back, .int .i64 p.rate, .int .i64 p.fixed, .int .i64 p.bound] 37)).alloc (.cells #[.slice q.iA q.im q.ic, .slice q.nA q.nm q.nc, .int .i64 q.back, .int .i64 q.rate, .int .i64 q.fixed, .int .i64 q.bound] 37)) (w.heap.size + 1) #[.slice q.iA q.im q.ic, .slice q.nA q.nm q.nc, .int .i64 q.back, .int .i64 q.rate, .int .i64 q.fixed, .int .i64 q.bound] 37 ∧ CtAt ((w.alloc (.cells #[.slice p.iA p.im p.ic, .slice p.nA p.nm p.nc, .int .i64 p.back, .int .i64 p.rate, .int .i64 p.fixed, .int .i64 p.bound] 37)).alloc (.cells #[.slice q.iA q.im q.ic, .slice q.nA q.nm q.nc, .int .i64 q.back, .int .i64 q.rate, .int .i64 q.fixed, .int .i64 q.bound] 37)) q) := ⟨box_at _ _ _ _ (by simp), (hq.below (below_alloc _ _)).below (below_alloc _ _)⟩
  have HB0 : Hid (Below w.heap.size w ((w.alloc (.cells #[.slice p.iA p.im p.ic, .slice p.nA p.nm p.nc, .int .i64 p.back, .int .i64 p.rate, .int .i64 p.fixed, .int .i64 p.bound] 37)).alloc (.cells #[.slice q.iA q.im q.ic, .slice q.nA q.nm q.nc, .int .i64 q.back, .int .i64 q.rate, .int .i64 q.fixed, .int .i64 q.bound] 37))) := below_more (below_alloc _ _) _
  have HN : Hid (¬ p.c = q.c → r = false) := fun h => Bool.eq_false_iff.2 fun e => h (hr.1 e)
  have HY : Hid (p.c = q.c → r = true) := fun h => hr.2 h
  clear hr hp hq
  obtain ⟨b1, hb1⟩ : ∃ z, decide (p.ids = q.ids) = z := ⟨_, rfl⟩
  obtain ⟨b2, hb2⟩ : ∃ z, decide (p.inn = q.inn) = z := ⟨_, rfl⟩
  have HB1 := Lib.hid hb1
  have HB2 := Lib.hid hb2
  have hn1 := HP.out.2.i2
  have hn2 := HP.out.2.n2
  have hn3 := HQ.out.2.i2
  have hn4 := HQ.out.2.n2
  have H1 : Hid (Calls Try.prog 16 #[.slice p.iA p.im p.ic, .slice q.iA q.im q.ic] ((w.alloc (.cells #[.slice p.iA p.im p.ic, .slice p.nA p.nm p.nc, .int .i64 p.back, .int .i64 p.rate, .int .i64 p.fixed, .int .i64 p.bound] 37)).alloc (.cells #[.slice q.iA q.im q.ic, .slice q.nA q.nm q.nc, .int .i64 q.back, .int .i64 q.rate, .int .i64 q.fixed, .int .i64 q.bound] 37)) fun e w' => e = .returned (.bool b1) ∧ w'.cell? ⟨w.heap.size, 1, none⟩ = some (.slice p.nA p.nm p.nc) ∧ w'.cell? ⟨w.heap.size + 1, 1, none⟩ = some (.slice q.nA q.nm q.nc) ∧ Hid (Below ((w.alloc (.cells #[.slice p.iA p.im p.ic, .slice p.nA p.nm p.nc, .int .i64 p.back, .int .i64 p.rate, .int .i64 p.fixed, .int .i64 p.bound] 37)).alloc (.cells #[.slice q.iA q.im q.ic, .slice q.nA q.nm q.nc, .int .i64 q.back, .int .i64 q.rate, .int .i64 q.fixed, .int .i64 q.bound] 37)).heap.size ((w.alloc (.cells #[.slice p.iA p.im p.ic, .slice p.nA p.nm p.nc, .int .i64 p.back, .int .i64 p.rate, .int .i64 p.fixed, .int .i64 p.bound] 37)).alloc (.cells #[.slice q.iA q.im q.ic, .slice q.nA q.nm q.nc, .int .i64 q.back, .int .i64 q.rate, .int .i64 q.fixed, .int .i64 q.bound] 37)) w' ∧ Below w.heap.size w w')) :=
    (psame_b p.iA q.iA p.im p.ic q.im q.ic p.ids q.ids _ b1 hb1 HP.out.2.il HQ.out.2.il (by omega) (by omega) HP.out.2.ii HQ.out.2.ii).mono fun e w' ⟨e1, h⟩ => by
      have h2 : Below ((w.alloc (.cells #[.slice p.iA p.im p.ic, .slice p.nA p.nm p.nc, .int .i64 p.back, .int .i64 p.rate, .int .i64 p.fixed, .int .i64 p.bound] 37)).alloc (.cells #[.slice q.iA q.im q.ic, .slice q.nA q.nm q.nc, .int .i64 q.back, .int .i64 q.rate, .int .i64 q.fixed, .int .i64 q.bound] 37)).heap.size ((w.alloc (.cells #[.slice p.iA p.im p.ic, .slice p.nA p.nm p.nc, .int .i64 p.back, .int .i64 p.rate, .int .i64 p.fixed, .int .i64 p.bound] 37)).alloc (.cells #[.slice q.iA q.im q.ic, .slice q.nA q.nm q.nc, .int .i64 q.back, .int .i64 q.rate, .int .i64 q.fixed, .int .i64 q.bound] 37)) w' := by obtain ⟨n, rfl⟩ := h; exact drewN_below _ _
      exact ⟨e1, (HP.out.1.below h2).cell 1 _ rfl, (HQ.out.1.below h2).cell 1 _ rfl, h2, below_next HB0.out h2⟩
  have H2 : Hid (∀ U, Hid (Below ((w.alloc (.cells #[.slice p.iA p.im p.ic, .slice p.nA p.nm p.nc, .int .i64 p.back, .int .i64 p.rate, .int .i64 p.fixed, .int .i64 p.bound] 37)).alloc (.cells #[.slice q.iA q.im q.ic, .slice q.nA q.nm q.nc, .int .i64 q.back, .int .i64 q.rate, .int .i64 q.fixed, .int .i64 q.bound] 37)).heap.size ((w.alloc (.cells #[.slice p.iA p.im p.ic, .slice p.nA p.nm p.nc, .int .i64 p.back, .int .i64 p.rate, .int .i64 p.fixed, .int .i64 p.bound] 37)).alloc (.cells #[.slice q.iA q.im q.ic, .slice q.nA q.nm q.nc, .int .i64 q.back, .int .i64 q.rate, .int .i64 q.fixed, .int .i64 q.bound] 37)) U ∧ Below w.heap.size w U) → Calls Try.prog 34 #[.slice p.nA p.nm p.nc, .slice q.nA q.nm q.nc] U fun e w' => e = .returned (.bool b2) ∧ w'.cell? ⟨w.heap.size, 2, none⟩ = some (.int .i64 p.back) ∧ w'.cell? ⟨w.heap.size, 3, none⟩ = some (.int .i64 p.rate) ∧ w'.cell? ⟨w.heap.size, 4, none⟩ = some (.int .i64 p.fixed) ∧ w'.cell? ⟨w.heap.size, 5, none⟩ = some (.int .i64 p.bound) ∧ w'.cell? ⟨w.heap.size + 1, 2, none⟩ = some (.int .i64 q.back) ∧ w'.cell? ⟨w.heap.size + 1, 3, none⟩ = some (.int .i64 q.rate) ∧ w'.cell? ⟨w.heap.size + 1, 4, none⟩ = some (.int .i64 q.fixed) ∧ w'.cell? ⟨w.heap.size + 1, 5, none⟩ = some (.int .i64 q.bound) ∧ Hid (Below ((w.alloc (.cells #[.slice p.iA p.im p.ic, .slice p.nA p.nm p.nc, .int .i64 p.back, .int .i64 p.rate, .int .i64 p.fixed, .int .i64 p.bound] 37)).alloc (.cells #[.slice q.iA q.im q.ic, .slice q.nA q.nm q.nc, .int .i64 q.back, .int .i64 q.rate, .int .i64 q.fixed, .int .i64 q.bound] 37)).heap.size ((w.alloc (.cells #[.slice p.iA p.im p.ic, .slice p.nA p.nm p.nc, .int .i64 p.back, .int .i64 p.rate, .int .i64 p.fixed, .int .i64 p.bound] 37)).alloc (.cells #[.slice q.iA q.im q.ic, .slice q.nA q.nm q.nc, .int .i64 q.back, .int .i64 q.rate, .int .i64 q.fixed, .int .i64 q.bound] 37)) w' ∧ Below w.heap.size w w')) := fun U hU =>
    (rints_b p.nA q.nA p.nm p.nc q.nm q.nc p.inn q.inn U b2 hb2 HP.out.2.nl HQ.out.2.nl (by omega) (by omega) (HP.out.2.nn.below hU.out.1) (HQ.out.2.nn.below hU.out.1)).mono fun e w' ⟨e1, h⟩ => by
      have h1 : Below U.heap.size U w' := by obtain ⟨n, rfl⟩ := h; exact drewN_below _ _
      have h2 := below_next hU.out.1 h1
      exact ⟨e1, (HP.out.1.below h2).cell 2 _ rfl, (HP.out.1.below h2).cell 3 _ rfl, (HP.out.1.below h2).cell 4 _ rfl, (HP.out.1.below h2).cell 5 _ rfl, (HQ.out.1.below h2).cell 2 _ rfl, (HQ.out.1.below h2).cell 3 _ rfl, (HQ.out.1.below h2).cell 4 _ rfl, (HQ.out.1.below h2).cell 5 _ rfl, h2, below_next hU.out.2 h1⟩
  have x0 : ((w.alloc (.cells #[.slice p.iA p.im p.ic, .slice p.nA p.nm p.nc, .int .i64 p.back, .int .i64 p.rate, .int .i64 p.fixed, .int .i64 p.bound] 37)).alloc (.cells #[.slice q.iA q.im q.ic, .slice q.nA q.nm q.nc, .int .i64 q.back, .int .i64 q.rate, .int .i64 q.fixed, .int .i64 q.bound] 37)).cell? ⟨w.heap.size, 0, none⟩ = some (.slice p.iA p.im p.ic) := HP.out.1.cell 0 _ rfl
  have x1 : ((w.alloc (.cells #[.slice p.iA p.im p.ic, .slice p.nA p.nm p.nc, .int .i64 p.back, .int .i64 p.rate, .int .i64 p.fixed, .int .i64 p.bound] 37)).alloc (.cells #[.slice q.iA q.im q.ic, .slice q.nA q.nm q.nc, .int .i64 q.back, .int .i64 q.rate, .int .i64 q.fixed, .int .i64 q.bound] 37)).cell? ⟨w.heap.size + 1, 0, none⟩ = some (.slice q.iA q.im q.ic) := HQ.out.1.cell 0 _ rfl
  clear hb1 hb2 hn1 hn2 hn3 hn4 HP HQ HB0
  go_enter Try.func11, Try.ntmps11
  cases b1
  · have HF : Hid (r = false) := HN.out fun h => (by have h1 := HB1.out; rw [decide_eq_true (show p.ids = q.ids from congrArg Bo.C.ids h)] at h1; cases h1)
    go_wp2_with (first | (go_at_call 16; (with_reducible refine H1.out.mono ?_); rintro e w2 ⟨rfl, y1, z1, hb2⟩) | (go_at_call 34; (with_reducible refine (H2.out _ hb2).mono ?_); rintro e w3 ⟨rfl, y2, y3, y4, y5, z2, z3, z4, z5, hb3⟩))
    go_ret
    exact ⟨by rw [HF.out]; rfl, hb2.out.2⟩
  cases b2
  · have HF : Hid (r = false) := HN.out fun h => (by have h1 := HB2.out; rw [decide_eq_true (show p.inn = q.inn from congrArg Bo.C.inn h)] at h1; cases h1)
    go_wp2_with (first | (go_at_call 16; (with_reducible refine H1.out.mono ?_); rintro e w2 ⟨rfl, y1, z1, hb2⟩) | (go_at_call 34; (with_reducible refine (H2.out _ hb2).mono ?_); rintro e w3 ⟨rfl, y2, y3, y4, y5, z2, z3, z4, z5, hb3⟩))
    go_ret
    exact ⟨by rw [HF.out]; rfl, hb3.out.2⟩
  by_cases e_back : p.back = q.back
  rotate_left
  · have d : (p.back == q.back) = false := beq_eq_false_iff_ne.2 e_back
    have HF : Hid (r = false) := HN.out fun h => e_back (congrArg Bo.C.back h)
    clear e_back
    go_wp2_with (first | (go_at_call 16; (with_reducible refine H1.out.mono ?_); rintro e w2 ⟨rfl, y1, z1, hb2⟩) | (go_at_call 34; (with_reducible refine (H2.out _ hb2).mono ?_); rintro e w3 ⟨rfl, y2, y3, y4, y5, z2, z3, z4, z5, hb3⟩))
    go_ret
    exact ⟨by rw [HF.out]; rfl, hb3.out.2⟩
  have d_back : (p.back == q.back) = true := beq_iff_eq.2 e_back
  have E_back := Lib.hid e_back
  clear e_back
  by_cases e_rate : p.rate = q.rate
  rotate_left
  · have d : (p.rate == q.rate) = false := beq_eq_false_iff_ne.2 e_rate
    have HF : Hid (r = false) := HN.out fun h => e_rate (congrArg Bo.C.rate h)
    clear e_rate
    go_wp2_with (first | (go_at_call 16; (with_reducible refine H1.out.mono ?_); rintro e w2 ⟨rfl, y1, z1, hb2⟩) | (go_at_call 34; (with_reducible refine (H2.out _ hb2).mono ?_); rintro e w3 ⟨rfl, y2, y3, y4, y5, z2, z3, z4, z5, hb3⟩))
    go_ret
    exact ⟨by rw [HF.out]; rfl, hb3.out.2⟩
  have d_rate : (p.rate == q.rate) = true := beq_iff_eq.2 e_rate
  have E_rate := Lib.hid e_rate
  clear e_rate
  by_cases e_fixed : p.fixed = q.fixed
  rotate_left
  · have d : (p.fixed == q.fixed) = false := beq_eq_false_iff_ne.2 e_fixed
    have HF : Hid (r = false) := HN.out fun h => e_fixed (congrArg Bo.C.fixed h)
    clear e_fixed
    go_wp2_with (first | (go_at_call 16; (with_reducible refine H1.out.mono ?_); rintro e w2 ⟨rfl, y1, z1, hb2⟩) | (go_at_call 34; (with_reducible refine (H2.out _ hb2).mono ?_); rintro e w3 ⟨rfl, y2, y3, y4, y5, z2, z3, z4, z5, hb3⟩))
    go_ret
    exact ⟨by rw [HF.out]; rfl, hb3.out.2⟩
  have d_fixed : (p.fixed == q.fixed) = true := beq_iff_eq.2 e_fixed
  have E_fixed := Lib.hid e_fixed
  clear e_fixed
  by_cases e_bound : p.bound = q.bound
  rotate_left
  · have d : (p.bound == q.bound) = false := beq_eq_false_iff_ne.2 e_bound
    have HF : Hid (r = false) := HN.out fun h => e_bound (congrArg Bo.C.bound h)
    clear e_bound
    go_wp2_with (first | (go_at_call 16; (with_reducible refine H1.out.mono ?_); rintro e w2 ⟨rfl, y1, z1, hb2⟩) | (go_at_call 34; (with_reducible refine (H2.out _ hb2).mono ?_); rintro e w3 ⟨rfl, y2, y3, y4, y5, z2, z3, z4, z5, hb3⟩))
    go_ret
    exact ⟨by rw [HF.out]; rfl, hb3.out.2⟩
  have d_bound : (p.bound == q.bound) = true := beq_iff_eq.2 e_bound
  have E_bound := Lib.hid e_bound
  clear e_bound
  have HF : Hid (r = true) := HY.out (by
    show (⟨p.ids, p.inn, p.back, p.rate, p.fixed, p.bound⟩ : Bo.C) = ⟨q.ids, q.inn, q.back, q.rate, q.fixed, q.bound⟩
    rw [of_decide_eq_true HB1.out, of_decide_eq_true HB2.out, E_back.out, E_rate.out, E_fixed.out, E_bound.out])
  go_wp2_with (first | (go_at_call 16; (with_reducible refine H1.out.mono ?_); rintro e w2 ⟨rfl, y1, z1, hb2⟩) | (go_at_call 34; (with_reducible refine (H2.out _ hb2).mono ?_); rintro e w3 ⟨rfl, y2, y3, y4, y5, z2, z3, z4, z5, hb3⟩))
  go_ret
  exact ⟨by rw [HF.out]; rfl, hb3.out.2⟩
end Go.Proofs.Ytbacakblboodeaa
