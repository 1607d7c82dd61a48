/- Texts joined: Contracts of package area: mayBe, has, place. Contracts of package area: Check, checkTold, Leg. Contracts of package area: Leg, Near. -/
import Derived.Test.YtbacakblboodeaaAreaMem
import Derived.OwnWalk
section
/-! Contracts of package area: mayBe, has, place. -/
namespace Go.Proofs.Ytbacakblboodeaa
open Go.RowKit
set_option linter.unusedVariables false

set_option maxHeartbeats 1000000 in
theorem place_any (N : Int) (v1 v2 : Value) (n f t : Nat) (w : World) (hN : N = (n : Int)) (hn : n ≤ 16) (hf : f < n) (ht : t < n) :
    Calls Try.prog 74 #[.agg #[.int .i64 N, v1, v2], .int .i64 (f : Int), .int .i64 (t : Int)] w fun e w' => e = .returned (.int .i64 ((f * n + t : Nat) : Int)) ∧ Below w.heap.size w w' := by
  subst hN
  have hp := Ar.place_le hn hf ht
  have e1 : ((f * n + t : Nat) : Int) = (f : Int) * (n : Int) + (t : Int) := by simp
  have e0 : ((f * n : Nat) : Int) = (f : Int) * (n : Int) := by simp
  have h1 : (0 : Int) ≤ (f : Int) * (n : Int) := by rw [← e0]; omega
  have h2 : (f : Int) * (n : Int) ≤ 256 := by rw [← e0]; omega
  rw [e1]
  clear e1 e0 hp
  go_enter Try.func74, Try.ntmps74
  go_wp2
  go_ret
  exact ⟨rfl, below_alloc _ _⟩

set_option maxHeartbeats 1000000 in
theorem has_any (N x : Int) (v1 v2 : Value) (w : World) :
    Calls Try.prog 100 #[.agg #[.int .i64 N, v1, v2], .int .i64 x] w fun e w' => e = .returned (.bool (Ar.hasB N x)) ∧ Below w.heap.size w w' := by
  by_cases h0 : 0 ≤ x
  · have d0 : decide (0 ≤ x) = true := decide_eq_true h0
    by_cases h1 : x < N
    · have d1 : decide (x < N) = true := decide_eq_true h1
      rw [(Ar.has_iff N x).2 ⟨h0, h1⟩]
      go_enter Try.func100, Try.ntmps100
      go_wp2
      go_ret
      exact ⟨rfl, below_alloc _ _⟩
    · have d1 : decide (x < N) = false := decide_eq_false h1
      rw [(Ar.has_not N x).2 (by omega)]
      go_enter Try.func100, Try.ntmps100
      go_wp2
      go_ret
      exact ⟨rfl, below_alloc _ _⟩
  · have d0 : decide (0 ≤ x) = false := decide_eq_false h0
    rw [(Ar.has_not N x).2 (by omega)]
    go_enter Try.func100, Try.ntmps100
    go_wp2
    go_ret
    exact ⟨rfl, below_alloc _ _⟩

set_option maxHeartbeats 2000000 in
set_option maxRecDepth 100000 in
theorem mayBe_any (n : Nat) (A : Option Addr) (m c : Nat) (D : List Int) (w : World) (hn1 : 1 ≤ n) (hn : n ≤ 16) (hm : D.length = m) (hml : m ≤ maxLen) (hD : IntsAt w A D) :
    Calls Try.prog 62 #[.int .i64 (n : Int), .slice A m c] w fun e w' => e = .returned (.bool (Ar.rowB n D)) ∧ ∃ q, w' = w.drewN q := by
  unfold maxLen at hml
  have hnn : n * n ≤ 256 := Nat.mul_le_mul hn hn
  have e0 : ((n * n : Nat) : Int) = (n : Int) * (n : Int) := by simp
  have h1 : (0 : Int) ≤ (n : Int) * (n : Int) := by rw [← e0]; omega
  have h2 : (n : Int) * (n : Int) ≤ 256 := by rw [← e0]; omega
  by_cases hmn : m = n * n
  · have d0 : ((m : Int) != (n : Int) * (n : Int)) = false := by rw [← e0, hmn]; simp
    have HD := Lib.hid hD
    have HM := Lib.hid hm
    have HT : Hid ((∀ k, k < m → Ar.fineB n k (D.getD k 0) = true) → Ar.rowB n D = true) := fun h => (Ar.row_iff n D).2 ⟨hm.trans hmn, by rw [hm]; exact h⟩
    have HF : Hid (∀ k, k < m → Ar.fineB n k (D.getD k 0) = false → Ar.rowB n D = false) := fun k hk h => Ar.row_at (by omega) h
    have hm256 : m ≤ 256 := by omega
    have HE0 := Lib.hid e0
    clear hD hm e0 hmn hnn
    generalize Ar.rowB n D = r at *
    go_enter Try.func62, Try.ntmps62
    go_wp2
    go_loopg [4, 15] m (fun gk s4 s15 W => ∃ (k q : Nat), k + gk = m ∧ s4 = .bool false ∧ s15 = .int .i64 k ∧ W = w.drewN q ∧ Hid (∀ i, i < k → Ar.fineB n i (D.getD i 0) = true))
    case atStart => exact ⟨0, 0, by omega, rfl, rfl, rfl, fun i hi => by omega⟩
    case round =>
      obtain ⟨k, q, hkg, rfl, rfl, rfl, HK⟩ := hrel
      by_cases hlt : k < m
      · obtain ⟨gk, rfl⟩ : ∃ j, gk = j + 1 := ⟨gk - 1, by omega⟩
        obtain ⟨z, hz, _⟩ := Ar.some_at D k (by rw [HM.out]; exact hlt)
        obtain ⟨ad, rfl, hc⟩ := HD.out k z hz
        have hc1 : (w.drewN q).cell? (ad.add k) = some (.int .i64 z) := by simpa using hc
        have HZ := Lib.hid (Ar.getD_of hz)
        have HW : Hid (∀ m, (w.drewN q).drewN m = w.drewN (q + m)) := fun m => by simp
        have HF2 := Lib.hid (HF.out k hlt)
        have i1 : (0 : Int) ≤ (k : Int) := by omega
        have i2 : (k : Int) < (m : Int) := by omega
        clear hz hc
        generalize hWq : w.drewN q = W at *
        have HWQ := Lib.hid hWq
        clear hWq
        by_cases z0 : z < 0
        · have d1 : decide (z < 0) = true := decide_eq_true z0
          have HR : Hid (r = false) := HF2.out (by rw [HZ.out, Bool.eq_false_iff]; intro e; have := (Ar.fine_iff _ _ _).1 e; omega)
          go_wp2
          go_ret
          exact ⟨by rw [HR.out]; rfl, q, HWQ.out.symm⟩
        · have d1 : decide (z < 0) = false := decide_eq_false z0
          by_cases z1 : 1000000 < z
          · have d2 : decide (1000000 < z) = true := decide_eq_true z1
            have HR : Hid (r = false) := HF2.out (by rw [HZ.out, Bool.eq_false_iff]; intro e; have := (Ar.fine_iff _ _ _).1 e; omega)
            go_wp2
            go_ret
            exact ⟨by rw [HR.out]; rfl, q, HWQ.out.symm⟩
          · have d2 : decide (1000000 < z) = false := decide_eq_false z1
            have g1 : ¬ n = 0 := by omega
            have hquo : IntKind.i64.wrap ((k : Int) / (n : Int)) = (k : Int) / (n : Int) := IntWalk.i64_in _ (by
              have e : (k : Int) / (n : Int) = ((k / n : Nat) : Int) := by simp
              have h3 := Nat.div_le_self k n
              rw [e]
              generalize k / n = x at *
              omega)
            have hrem : (k : Int).tmod (n : Int) = (k : Int) % (n : Int) := Int.tmod_eq_emod_of_nonneg (by omega)
            by_cases hd : k / n = k % n
            · have d3 : ((k : Int) / (n : Int) == (k : Int) % (n : Int)) = true := by rw [beq_iff_eq]; have : ((k / n : Nat) : Int) = ((k % n : Nat) : Int) := by rw [hd]
                                                                                      simpa using this
              by_cases z2 : z = 0
              · subst z2
                have HK2 : Hid (∀ i, i < k + 1 → Ar.fineB n i (D.getD i 0) = true) := fun i hi => by
                  by_cases h : i < k
                  · exact HK.out i h
                  · obtain rfl : i = k := by omega
                    rw [HZ.out]
                    exact (Ar.fine_iff _ _ _).2 ⟨by omega, by omega, fun _ => rfl⟩
                clear hd HF2
                go_wp2
                go_quiet (fail)
                go_wp2
                go_roundg gk
                case measure => omega
                case rel => exact ⟨k + 1, _, by omega, rfl, by first | rfl | go_num, HW.out _, HK2.out⟩
              · have d4 : (z != 0) = true := bne_iff_ne.2 z2
                have HR : Hid (r = false) := HF2.out (by rw [HZ.out, Bool.eq_false_iff]; intro e; exact z2 (((Ar.fine_iff _ _ _).1 e).2.2 hd))
                clear hd HF2
                go_wp2
                go_quiet (fail)
                go_wp2
                go_ret
                exact ⟨by rw [HR.out]; rfl, _, HW.out _⟩
            · have d3 : ((k : Int) / (n : Int) == (k : Int) % (n : Int)) = false := by
                rw [beq_eq_false_iff_ne]
                intro e
                apply hd
                have : ((k / n : Nat) : Int) = ((k % n : Nat) : Int) := by simpa using e
                exact Int.ofNat.inj this
              have HK2 : Hid (∀ i, i < k + 1 → Ar.fineB n i (D.getD i 0) = true) := fun i hi => by
                by_cases h : i < k
                · exact HK.out i h
                · obtain rfl : i = k := by omega
                  rw [HZ.out]
                  exact (Ar.fine_iff _ _ _).2 ⟨by omega, by omega, fun e => absurd e hd⟩
              clear hd HF2
              go_wp2
              go_quiet (fail)
              go_wp2
              go_roundg gk
              case measure => omega
              case rel => exact ⟨k + 1, _, by omega, rfl, by first | rfl | go_num, HW.out _, HK2.out⟩
      · have HR2 := Lib.hid (HT.out (fun i hi => HK.out i (by omega)))
        have hk : k = m := by omega
        subst hk
        go_wp2
        go_ret
        exact ⟨by rw [HR2.out]; rfl, _, rfl⟩
  · rw [Ar.row_len (by rw [hm]; exact hmn)]
    have d0 : ((m : Int) != (n : Int) * (n : Int)) = true := bne_iff_ne.2 (by rw [← e0]; omega)
    clear e0 hm hmn hD
    go_enter Try.func62, Try.ntmps62
    go_wp2
    go_ret
    exact ⟨rfl, 0, rfl⟩
end Go.Proofs.Ytbacakblboodeaa
end

section
/-! Contracts of package area: Check, checkTold, Leg. -/
namespace Go.Proofs.Ytbacakblboodeaa
open Go.RowKit
set_option linter.unusedVariables false

/-- an area's rows, as they lie -/
structure AreaAt (w : World) (dA : Option Addr) (dm : Nat) (D : List Int) (tA : Option Addr) (tm : Nat) (T : List Int) : Prop where
  dl : D.length = dm
  tl : T.length = tm
  d400 : dm ≤ 400
  t400 : tm ≤ 400
  d : IntsAt w dA D
  t : IntsAt w tA T
theorem AreaAt.below {w w' : World} {dA tA : Option Addr} {dm tm : Nat} {D T : List Int} (h : AreaAt w dA dm D tA tm T) (hb : Below w.heap.size w w') : AreaAt w' dA dm D tA tm T :=
  ⟨h.dl, h.tl, h.d400, h.t400, h.d.below hb, h.t.below hb⟩

def boxA (N : Int) (dA : Option Addr) (dm dc : Nat) (tA : Option Addr) (tm tc : Nat) : Array Value := #[.int .i64 N, .slice dA dm dc, .slice tA tm tc]

/-- an area in a box of its own, its rows beside it -/
structure Boxed (w : World) (b : Nat) (N : Int) (dA : Option Addr) (dm dc : Nat) (D : List Int) (tA : Option Addr) (tm tc : Nat) (T : List Int) : Prop where
  box : Box w b (boxA N dA dm dc tA tm tc) 24
  rows : AreaAt w dA dm D tA tm T
theorem Boxed.below {w w' : World} {b : Nat} {N : Int} {dA tA : Option Addr} {dm dc tm tc : Nat} {D T : List Int} (h : Boxed w b N dA dm dc D tA tm tc T) (hb : Below w.heap.size w w') : Boxed w' b N dA dm dc D tA tm tc T :=
  ⟨h.box.below hb, h.rows.below hb⟩
theorem Boxed.new {w : World} {N : Int} {dA tA : Option Addr} {dm dc tm tc : Nat} {D T : List Int} (h : AreaAt w dA dm D tA tm T) : Boxed (w.alloc (.cells #[.int .i64 N, .slice dA dm dc, .slice tA tm tc] 24)) w.heap.size N dA dm dc D tA tm tc T :=
  ⟨Box.new w _ _, h.below (below_alloc _ _)⟩
theorem Boxed.c0 {w : World} {b : Nat} {N : Int} {dA tA : Option Addr} {dm dc tm tc : Nat} {D T : List Int} (h : Boxed w b N dA dm dc D tA tm tc T) : w.cell? ⟨b, 0, none⟩ = some (.int .i64 N) := h.box.cell 0 _ rfl
theorem Boxed.c1 {w : World} {b : Nat} {N : Int} {dA tA : Option Addr} {dm dc tm tc : Nat} {D T : List Int} (h : Boxed w b N dA dm dc D tA tm tc T) : w.cell? ⟨b, 1, none⟩ = some (.slice dA dm dc) := h.box.cell 1 _ rfl
theorem Boxed.c2 {w : World} {b : Nat} {N : Int} {dA tA : Option Addr} {dm dc tm tc : Nat} {D T : List Int} (h : Boxed w b N dA dm dc D tA tm tc T) : w.cell? ⟨b, 2, none⟩ = some (.slice tA tm tc) := h.box.cell 2 _ rfl

theorem mayBe_b (n : Nat) (A : Option Addr) (m c : Nat) (D : List Int) (W : World) (r : Bool) (hr : Ar.rowB n D = r) (hn1 : 1 ≤ n) (hn : n ≤ 16) (hm : D.length = m) (hml : m ≤ 400) (hD : IntsAt W A D) :
    Calls Try.prog 62 #[.int .i64 (n : Int), .slice A m c] W fun e w' => e = .returned (.bool r) ∧ Hid (Below W.heap.size W w') :=
  (mayBe_any n A m c D W hn1 hn hm (by unfold maxLen; omega) hD).mono fun _ _ ⟨he, q, hq⟩ => ⟨by rw [he, hr], by rw [hq]; exact ⟨rfl, rfl, rfl, Nat.le_refl _, fun _ _ => rfl⟩⟩

set_option maxHeartbeats 1000000 in
theorem check_any (N : Int) (dA : Option Addr) (dm dc : Nat) (D : List Int) (tA : Option Addr) (tm tc : Nat) (T : List Int) (w : World) (h : AreaAt w dA dm D tA tm T) :
    Calls Try.prog 43 #[.agg #[.int .i64 N, .slice dA dm dc, .slice tA tm tc]] w fun e w' => e = .returned (.int .i64 (Ar.checkE N D T)) ∧ Below w.heap.size w w' := by
  by_cases h1 : N < 1
  · have d1 : decide (N < 1) = true := decide_eq_true h1
    have e : Ar.okB N D T = false := by rw [Bool.eq_false_iff]; intro e; have := (Ar.ok_iff N D T).1 e; omega
    rw [Ar.check_no e]
    clear e h
    go_enter Try.func43, Try.ntmps43
    go_wp2
    go_ret
    exact ⟨rfl, below_alloc _ _⟩
  · have d1 : decide (N < 1) = false := decide_eq_false h1
    by_cases h2 : 16 < N
    · have d2 : decide (16 < N) = true := decide_eq_true h2
      have e : Ar.okB N D T = false := by rw [Bool.eq_false_iff]; intro e; have := (Ar.ok_iff N D T).1 e; omega
      rw [Ar.check_no e]
      clear e h
      go_enter Try.func43, Try.ntmps43
      go_wp2
      go_ret
      exact ⟨rfl, below_alloc _ _⟩
    · have d2 : decide (16 < N) = false := decide_eq_false h2
      obtain ⟨n, rfl⟩ := Int.eq_ofNat_of_zero_le (show 0 ≤ N by omega)
      have HOK := Lib.hid (Ar.ok_iff (n : Int) D T)
      have HCE := Lib.hid (fun h => Ar.check_yes (N := (n : Int)) (D := D) (T := T) h)
      have HCN := Lib.hid (fun h => Ar.check_no (N := (n : Int)) (D := D) (T := T) h)
      generalize Ar.checkE (n : Int) D T = ce at *
      have HN : Hid ((n : Int).toNat = n) := by unfold Hid; simp
      rw [HN.out] at HOK
      have HX := Lib.hid (Boxed.new (N := (n : Int)) (dc := dc) (tc := tc) h)
      have HB0 : Hid (Below w.heap.size w (w.alloc (.cells #[.int .i64 (n : Int), .slice dA dm dc, .slice tA tm tc] 24))) := below_alloc _ _
      clear h HN
      generalize Ar.okB (n : Int) D T = ok at *
      go_enter Try.func43, Try.ntmps43
      go_wp2_with fail
      generalize w.alloc (.cells #[.int .i64 (n : Int), .slice dA dm dc, .slice tA tm tc] 24) = W at *
      cases hd : Ar.rowB n D with
      | false =>
        have HR : Hid (ok = false) := by
          cases ok with
          | false => exact rfl
          | true => have := (HOK.out.1 rfl).2.2.1; rw [hd] at this; cases this
        with_reducible refine (mayBe_b n dA dm dc D W false hd (by omega) (by omega) HX.out.rows.dl HX.out.rows.d400 HX.out.rows.d).mono ?_
        rintro e w1 ⟨rfl, hb1⟩
        clear hd HOK
        go_wp2
        go_ret
        exact ⟨by rw [HCN.out HR.out]; rfl, below_next HB0.out hb1.out⟩
      | true =>
        have HC1 := Lib.hid (mayBe_b n dA dm dc D W true hd (by omega) (by omega) HX.out.rows.dl HX.out.rows.d400 HX.out.rows.d)
        have HC2 : Hid (∀ w1, Below W.heap.size W w1 → Calls Try.prog 62 #[.int .i64 (n : Int), .slice tA tm tc] w1 fun e w' => e = .returned (.bool (Ar.rowB n T)) ∧ Hid (Below w.heap.size w w')) := fun w1 hb =>
          (mayBe_b n tA tm tc T w1 _ rfl (by omega) (by omega) HX.out.rows.tl HX.out.rows.t400 (HX.out.rows.t.below hb)).mono fun _ _ ⟨e1, e2⟩ => ⟨e1, below_next (below_next HB0.out hb) e2.out⟩
        have HR : Hid (ok = Ar.rowB n T) := by
          cases ht : Ar.rowB n T with
          | true => exact HOK.out.2 ⟨by omega, by omega, hd, ht⟩
          | false =>
            cases ok with
            | false => exact rfl
            | true => have := (HOK.out.1 rfl).2.2.2; rw [ht] at this; cases this
        clear hd HOK
        with_reducible refine HC1.out.mono ?_
        rintro e w1 ⟨rfl, hb1⟩
        have x0 := (HX.out.below hb1.out).c0
        have x2 := (HX.out.below hb1.out).c2
        have HC3 := Lib.hid (HC2.out w1 hb1.out)
        clear HC1 HC2
        cases hT : Ar.rowB n T with
        | false =>
          rw [hT] at HC3 HR
          go_wp2_with (go_at_call 62; refine HC3.out.mono ?_; rintro e w2 ⟨rfl, hb2⟩)
          go_ret
          exact ⟨by rw [HCN.out HR.out]; rfl, hb2.out⟩
        | true =>
          rw [hT] at HC3 HR
          go_wp2_with (go_at_call 62; refine HC3.out.mono ?_; rintro e w2 ⟨rfl, hb2⟩)
          go_ret
          exact ⟨by rw [HCE.out HR.out]; rfl, hb2.out⟩

theorem check_ok {N : Int} {dA tA : Option Addr} {dm dc tm tc : Nat} {D T : List Int} (w : World) (r : Int) (hr : Ar.checkE N D T = r) (h : AreaAt w dA dm D tA tm T) :
    Calls Try.prog 43 #[.agg #[.int .i64 N, .slice dA dm dc, .slice tA tm tc]] w fun e w' => e = .returned (.int .i64 r) ∧ Hid (Below w.heap.size w w') := by
  subst hr
  exact (check_any N dA dm dc D tA tm tc T w h)

set_option maxHeartbeats 2000000 in
set_option maxRecDepth 100000 in
theorem told_any (N : Int) (dA : Option Addr) (dm dc : Nat) (D : List Int) (tA : Option Addr) (tm tc : Nat) (T : List Int) (A : Option Addr) (m c : Nat) (l : List Int) (w : World) (h : AreaAt w dA dm D tA tm T) (hm : l.length = m) (hm2 : m ≤ 1000) (hl : IntsAt w A l) :
    Calls Try.prog 73 #[.agg #[.int .i64 N, .slice dA dm dc, .slice tA tm tc], .slice A m c] w fun e w' => e = .returned (.int .i64 (Ar.toldE N D T l)) ∧ Below w.heap.size w w' := by
  have HB0 : Hid (Below w.heap.size w (w.alloc (.cells #[.int .i64 N, .slice dA dm dc, .slice tA tm tc] 24))) := below_alloc _ _
  have HX := Lib.hid (Boxed.new (N := N) (dc := dc) (tc := tc) h)
  have HL : Hid (IntsAt (w.alloc (.cells #[.int .i64 N, .slice dA dm dc, .slice tA tm tc] 24)) A l) := hl.below HB0.out
  have HM := Lib.hid hm
  clear h hl hm
  cases hok : Ar.okB N D T with
  | false =>
    have HT := Lib.hid (Ar.told_arg (l := l) hok)
    have HCK := Lib.hid (check_ok (N := N) (dc := dc) (tc := tc) _ 1 (Ar.check_no hok) HX.out.rows)
    generalize Ar.toldE N D T l = r at *
    clear hok
    go_enter Try.func73, Try.ntmps73
    go_wp2_with (go_at_call 43; refine HCK.out.mono ?_; rintro e w1 ⟨rfl, hb1⟩)
    go_ret
    exact ⟨by rw [HT.out]; rfl, below_next HB0.out hb1.out⟩
  | true =>
    have HT := Lib.hid (fun hi => Ar.told_ok (l := l) hok hi)
    have HT2 := Lib.hid (fun hi => Ar.told_name (l := l) hok hi)
    generalize Ar.toldE N D T l = r at *
    have HCK := Lib.hid (check_ok (N := N) (dc := dc) (tc := tc) _ 0 (Ar.check_yes hok) HX.out.rows)
    clear hok
    go_enter Try.func73, Try.ntmps73
    go_wp2_with (go_at_call 43; refine HCK.out.mono ?_; rintro e w1 ⟨rfl, hb1⟩)
    have HX1 := Lib.hid (HX.out.below hb1.out)
    have HL1 := Lib.hid (HL.out.below hb1.out)
    have HB1 := Lib.hid (below_next HB0.out hb1.out)
    clear HCK hb1 HX HL HB0
    go_loopg [4, 15] m (fun gk s4 s15 W => ∃ (k : Nat), k + gk = m ∧ s4 = .int .i64 0 ∧ s15 = .int .i64 k ∧ Hid (Below w1.heap.size w1 W) ∧ Hid (∀ x ∈ l.take k, Ar.hasB N x = true))
    case atStart => exact ⟨0, by omega, rfl, rfl, Below.refl _ _, fun x hx => by simp at hx⟩
    case round =>
      obtain ⟨k, hkg, rfl, rfl, HB, HK⟩ := hrel
      by_cases hlt : k < m
      · obtain ⟨gk, rfl⟩ : ∃ j, gk = j + 1 := ⟨gk - 1, by omega⟩
        obtain ⟨x, hx, hmem⟩ := Ar.some_at l k (by rw [HM.out]; exact hlt)
        obtain ⟨ad, rfl, hc⟩ := (HL1.out.below HB.out) k x hx
        have x0 := (HX1.out.below HB.out).c0
        have x1 := (HX1.out.below HB.out).c1
        have x2 := (HX1.out.below HB.out).c2
        cases hh : Ar.hasB N x with
        | true =>
          have HH : Hid (∀ W, Calls Try.prog 100 #[.agg #[.int .i64 N, .slice dA dm dc, .slice tA tm tc], .int .i64 x] W fun e w' => e = .returned (.bool true) ∧ Hid (Below W.heap.size W w')) := fun W => by rw [← hh]; exact has_any N x _ _ W
          have HK2 : Hid (∀ y ∈ l.take (k + 1), Ar.hasB N y = true) := fun y hy => by
            rw [Ar.take_snoc l k x hx] at hy
            rcases List.mem_append.1 hy with hy | hy
            · exact HK.out y hy
            · rw [List.mem_singleton.1 hy]; exact hh
          clear hx hmem hh
          go_wp2_with (go_at_call 100; refine (HH.out _).mono ?_; rintro e w2 ⟨rfl, hb2⟩)
          go_roundg gk
          case measure => omega
          case rel => exact ⟨k + 1, by omega, rfl, by first | rfl | go_num, below_next HB.out hb2.out, HK2.out⟩
        | false =>
          have HH : Hid (∀ W, Calls Try.prog 100 #[.agg #[.int .i64 N, .slice dA dm dc, .slice tA tm tc], .int .i64 x] W fun e w' => e = .returned (.bool false) ∧ Hid (Below W.heap.size W w')) := fun W => by rw [← hh]; exact has_any N x _ _ W
          have HR := Lib.hid (HT2.out (Ar.ins_not hmem hh))
          clear hx hmem hh
          go_wp2_with (go_at_call 100; refine (HH.out _).mono ?_; rintro e w2 ⟨rfl, hb2⟩)
          go_ret
          exact ⟨by rw [HR.out]; rfl, below_next (below_next HB1.out HB.out) hb2.out⟩
      · have HR := Lib.hid (HT.out ((Ar.ins_iff N l).2 (fun x hx => HK.out x (by rw [List.take_of_length_le (by rw [HM.out]; omega)]; exact hx))))
        have hk : k = m := by omega
        subst hk
        go_wp2
        go_ret
        exact ⟨by rw [HR.out]; rfl, below_next HB1.out HB.out⟩
end Go.Proofs.Ytbacakblboodeaa
end

section
/-! Contracts of package area: Leg, Near. -/
namespace Go.Proofs.Ytbacakblboodeaa
open Go.RowKit
set_option linter.unusedVariables false

theorem box_row2 (w : World) (f t : Int) (ty : TypeId) : IntsAt (w.alloc (.cells #[.int .i64 f, .int .i64 t] ty)) (some ⟨w.heap.size, 0, none⟩) [f, t] := box_ints (Box.new w _ ty) (by simp)

theorem ints1 (w : World) (a : Int) (ty : TypeId) : IntsAt (w.alloc (.cells #[.int .i64 a] ty)) (some ⟨w.heap.size, 0, none⟩) [a] := box_ints (Box.new w _ ty) (by simp)

theorem told_b {N : Int} {dA tA : Option Addr} {dm dc tm tc : Nat} {D T : List Int} (A : Option Addr) (m c : Nat) (l : List Int) (w : World) (r : Int) (hr : Ar.toldE N D T l = r) (h : AreaAt w dA dm D tA tm T) (hm : l.length = m) (hm2 : m ≤ 1000) (hl : IntsAt w A l) :
    Calls Try.prog 73 #[.agg #[.int .i64 N, .slice dA dm dc, .slice tA tm tc], .slice A m c] w fun e w' => e = .returned (.int .i64 r) ∧ Hid (Below w.heap.size w w') := by
  subst hr
  exact told_any N dA dm dc D tA tm tc T A m c l w h hm hm2 hl

theorem told_cases (N : Int) (D T l : List Int) : Ar.toldE N D T l = 0 ∧ Ar.okB N D T = true ∧ Ar.insB N l = true ∨ Ar.toldE N D T l = 5 ∧ Ar.okB N D T = true ∧ Ar.insB N l = false ∨ Ar.toldE N D T l = 1 ∧ Ar.okB N D T = false := by
  cases h : Ar.okB N D T
  · exact .inr (.inr ⟨Ar.told_arg h, rfl⟩)
  · cases h2 : Ar.insB N l
    · exact .inr (.inl ⟨Ar.told_name h h2, rfl, rfl⟩)
    · exact .inl ⟨Ar.told_ok h h2, rfl, rfl⟩

theorem at_ok {N : Int} {w : World} {dA tA : Option Addr} {dm tm : Nat} {D T : List Int} {n f t : Nat} (ho : Ar.Ok N D T n) (h : AreaAt w dA dm D tA tm T) (hf : f < n) (ht : t < n) :
    ∃ (p : Nat) (ad at' : Addr), p = f * n + t ∧ p < dm ∧ p < tm ∧ dA = some ad ∧ tA = some at' ∧ w.cell? (ad.add p) = some (.int .i64 (Ar.at2 N D (f : Int) (t : Int))) ∧ w.cell? (at'.add p) = some (.int .i64 (Ar.at2 N T (f : Int) (t : Int))) := by
  have hp := Ar.place_lt hf ht
  have h1 : f * n + t < D.length := by rw [ho.dl]; exact hp
  have h2 : f * n + t < T.length := by rw [ho.tl]; exact hp
  obtain ⟨x, hx, _⟩ := Ar.some_at D _ h1
  obtain ⟨y, hy, _⟩ := Ar.some_at T _ h2
  obtain ⟨ad, e1, c1⟩ := h.d _ _ hx
  obtain ⟨at', e2, c2⟩ := h.t _ _ hy
  refine ⟨f * n + t, ad, at', rfl, by have := h.dl; omega, by have := h.tl; omega, e1, e2, ?_, ?_⟩
  · rw [c1, Ar.at2_eq ho.cast, Ar.getD_of hx]
  · rw [c2, Ar.at2_eq ho.cast, Ar.getD_of hy]

set_option maxHeartbeats 2000000 in
set_option maxRecDepth 100000 in
theorem leg_any (N : Int) (dA : Option Addr) (dm dc : Nat) (D : List Int) (tA : Option Addr) (tm tc : Nat) (T : List Int) (f t : Int) (w : World) (h : AreaAt w dA dm D tA tm T) :
    Calls Try.prog 47 #[.agg #[.int .i64 N, .slice dA dm dc, .slice tA tm tc], .int .i64 f, .int .i64 t] w fun e w' => e = .returned (.tuple #[.int .i64 (Ar.legS N D T f t).1, .int .i64 (Ar.legS N D T f t).2.1, .int .i64 (Ar.legS N D T f t).2.2]) ∧ Below w.heap.size w w' := by
  have HB0 : Hid (Below w.heap.size w ((w.alloc (.cells #[.int .i64 N, .slice dA dm dc, .slice tA tm tc] 24)).alloc (.cells #[.int .i64 f, .int .i64 t] 3))) := below_next (below_alloc _ _) (below_alloc _ _)
  have HX : Hid (Boxed ((w.alloc (.cells #[.int .i64 N, .slice dA dm dc, .slice tA tm tc] 24)).alloc (.cells #[.int .i64 f, .int .i64 t] 3)) w.heap.size N dA dm dc D tA tm tc T) := (Boxed.new (N := N) (dc := dc) (tc := tc) h).below (below_alloc _ _)
  have HL : Hid (IntsAt ((w.alloc (.cells #[.int .i64 N, .slice dA dm dc, .slice tA tm tc] 24)).alloc (.cells #[.int .i64 f, .int .i64 t] 3)) (some ⟨w.heap.size + 1, 0, none⟩) [f, t]) := by
    have := box_row2 (w.alloc (.cells #[.int .i64 N, .slice dA dm dc, .slice tA tm tc] 24)) f t 3
    unfold Hid
    simpa using this
  clear h
  rcases told_cases N D T [f, t] with ⟨h0, hok, hin⟩ | h0
  · have e0 : Ar.legS N D T f t = (Ar.at2 N D f t, Ar.at2 N T f t, 0) := by unfold Ar.legS; rw [if_pos h0]
    rw [e0]
    clear e0
    have ho := Ar.ok_of hok
    generalize N.toNat = n at ho
    obtain ⟨hf, ht⟩ : Ar.hasB N f = true ∧ Ar.hasB N t = true := by
      rw [Ar.ins_cons, Ar.ins_cons, Bool.and_eq_true, Bool.and_eq_true] at hin
      exact ⟨hin.1, hin.2.1⟩
    obtain ⟨f, rfl, hf'⟩ := Ar.has_nat ho.cast hf
    obtain ⟨t, rfl, ht'⟩ := Ar.has_nat ho.cast ht
    clear hf ht
    obtain ⟨p, ad, at', hp, hpd, hpt, rfl, rfl, hc1, hc2⟩ := at_ok ho HX.out.rows hf' ht'
    have HT := Lib.hid (told_b (N := N) (dc := dc) (tc := tc) (some ⟨w.heap.size + 1, 0, none⟩) 2 2 [(f : Int), (t : Int)] _ 0 h0 HX.out.rows rfl (by omega) HL.out)
    have HP : Hid (∀ W, Calls Try.prog 74 #[.agg #[.int .i64 N, .slice (some ad) dm dc, .slice (some at') tm tc], .int .i64 (f : Int), .int .i64 (t : Int)] W fun e w' => e = .returned (.int .i64 (p : Int)) ∧ Hid (Below W.heap.size W w')) := fun W => by
      rw [hp]; exact place_any N _ _ n f t W ho.cast ho.n16 hf' ht'
    have HC1 := Lib.hid hc1
    have HC2 := Lib.hid hc2
    clear hc1 hc2 hp ho hf' ht' h0 hok hin HL
    generalize Ar.at2 N D (f : Int) (t : Int) = dd at *
    generalize Ar.at2 N T (f : Int) (t : Int) = tt at *
    go_enter Try.func47, Try.ntmps47
    go_wp2_with fail
    generalize (w.alloc (.cells #[.int .i64 N, .slice (some ad) dm dc, .slice (some at') tm tc] 24)).alloc (.cells #[.int .i64 (f : Int), .int .i64 (t : Int)] 3) = W at *
    with_reducible refine HT.out.mono ?_
    rintro e w1 ⟨rfl, hb1⟩
    have HB1 := Lib.hid (below_next HB0.out hb1.out)
    have HX1 := Lib.hid (HX.out.below hb1.out)
    have HD1 : Hid (w1.cell? (ad.add p) = some (.int .i64 dd)) := by unfold Hid; rw [hb1.out.cell (p := ad.add p) (lt_of_cell HC1.out)]; exact HC1.out
    have HD2 : Hid (w1.cell? (at'.add p) = some (.int .i64 tt)) := by unfold Hid; rw [hb1.out.cell (p := at'.add p) (lt_of_cell HC2.out)]; exact HC2.out
    have x0 := HX1.out.c0
    have x1 := HX1.out.c1
    have x2 := HX1.out.c2
    clear HT hb1 HX HB0 HC1 HC2
    go_wp2_with fail
    with_reducible refine (HP.out _).mono ?_
    rintro e w2 ⟨rfl, hb2⟩
    clear x0 x1 x2
    have x1 := (HX1.out.below hb2.out).c1
    have x2 := (HX1.out.below hb2.out).c2
    have y1 : w2.cell? (ad.add p) = some (.int .i64 dd) := by rw [hb2.out.cell (p := ad.add p) (lt_of_cell HD1.out)]; exact HD1.out
    have y2 : w2.cell? (at'.add p) = some (.int .i64 tt) := by rw [hb2.out.cell (p := at'.add p) (lt_of_cell HD2.out)]; exact HD2.out
    have HB2 := Lib.hid (below_next HB1.out hb2.out)
    have i0 : (0 : Int) ≤ (p : Int) := by omega
    have i1 : (p : Int) < (dm : Int) := by omega
    have i2 : (p : Int) < (tm : Int) := by omega
    clear hb2 HP HX1 HB1 HD1 HD2
    go_wp2
    go_quiet (fail)
    go_wp2
    go_ret3
    exact ⟨rfl, HB2.out.trans ⟨rfl, rfl, rfl, Nat.le_refl _, fun _ _ => rfl⟩⟩
  · have hne : Ar.toldE N D T [f, t] ≠ 0 := by rcases h0 with h0 | h0 <;> omega
    have e0 : Ar.legS N D T f t = (0, 0, Ar.toldE N D T [f, t]) := by unfold Ar.legS; rw [if_neg hne]
    rw [e0]
    clear e0 h0
    have HT := Lib.hid (told_b (N := N) (dc := dc) (tc := tc) (some ⟨w.heap.size + 1, 0, none⟩) 2 2 [f, t] _ _ rfl HX.out.rows rfl (by omega) HL.out)
    generalize Ar.toldE N D T [f, t] = r at *
    have d0 : (r != 0) = true := bne_iff_ne.2 hne
    clear hne HL
    go_enter Try.func47, Try.ntmps47
    go_wp2_with fail
    generalize (w.alloc (.cells #[.int .i64 N, .slice dA dm dc, .slice tA tm tc] 24)).alloc (.cells #[.int .i64 f, .int .i64 t] 3) = W at *
    with_reducible refine HT.out.mono ?_
    rintro e w1 ⟨rfl, hb1⟩
    go_wp2
    go_ret3
    exact ⟨rfl, below_next HB0.out hb1.out⟩
end Go.Proofs.Ytbacakblboodeaa
end
