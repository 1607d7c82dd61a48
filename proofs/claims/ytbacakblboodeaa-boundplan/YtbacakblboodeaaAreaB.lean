/- Contracts of package area: Check, checkTold, Leg. -/
import Derived.Test.YtbacakblboodeaaAreaA
namespace Go.Proofs.Ytbacakblboodeaa
open Go.RowKit
set_option linter.unusedVariables false

/-- an area's rows, as they lie -/
structure AreaAt (w : World) (dA : Option Addr) (dm : Nat) (D : List Int) (tA : Option Addr) (tm : Nat) (T : List Int) : Prop where
  dl : D.length = dm
  tl : T.length = tm
  d400 : dm ≤ 400
  t400 : tm ≤ 400
  d : IntsAt w dA D
  t : IntsAt w tA T
theorem AreaAt.below {w w' : World} {dA tA : Option Addr} {dm tm : Nat} {D T : List Int} (h : AreaAt w dA dm D tA tm T) (hb : Below w.heap.size w w') : AreaAt w' dA dm D tA tm T :=
  ⟨h.dl, h.tl, h.d400, h.t400, h.d.below hb, h.t.below hb⟩

def boxA (N : Int) (dA : Option Addr) (dm dc : Nat) (tA : Option Addr) (tm tc : Nat) : Array Value := #[.int .i64 N, .slice dA dm dc, .slice tA tm tc]

/-- an area in a box of its own, its rows beside it -/
structure Boxed (w : World) (b : Nat) (N : Int) (dA : Option Addr) (dm dc : Nat) (D : List Int) (tA : Option Addr) (tm tc : Nat) (T : List Int) : Prop where
  box : Box w b (boxA N dA dm dc tA tm tc) 24
  rows : AreaAt w dA dm D tA tm T
theorem Boxed.below {w w' : World} {b : Nat} {N : Int} {dA tA : Option Addr} {dm dc tm tc : Nat} {D T : List Int} (h : Boxed w b N dA dm dc D tA tm tc T) (hb : Below w.heap.size w w') : Boxed w' b N dA dm dc D tA tm tc T :=
  ⟨h.box.below hb, h.rows.below hb⟩
theorem Boxed.new {w : World} {N : Int} {dA tA : Option Addr} {dm dc tm tc : Nat} {D T : List Int} (h : AreaAt w dA dm D tA tm T) : Boxed (w.alloc (.cells #[.int .i64 N, .slice dA dm dc, .slice tA tm tc] 24)) w.heap.size N dA dm dc D tA tm tc T :=
  ⟨Box.new w _ _, h.below (below_alloc _ _)⟩
theorem Boxed.c0 {w : World} {b : Nat} {N : Int} {dA tA : Option Addr} {dm dc tm tc : Nat} {D T : List Int} (h : Boxed w b N dA dm dc D tA tm tc T) : w.cell? ⟨b, 0, none⟩ = some (.int .i64 N) := h.box.cell 0 _ rfl
theorem Boxed.c1 {w : World} {b : Nat} {N : Int} {dA tA : Option Addr} {dm dc tm tc : Nat} {D T : List Int} (h : Boxed w b N dA dm dc D tA tm tc T) : w.cell? ⟨b, 1, none⟩ = some (.slice dA dm dc) := h.box.cell 1 _ rfl
theorem Boxed.c2 {w : World} {b : Nat} {N : Int} {dA tA : Option Addr} {dm dc tm tc : Nat} {D T : List Int} (h : Boxed w b N dA dm dc D tA tm tc T) : w.cell? ⟨b, 2, none⟩ = some (.slice tA tm tc) := h.box.cell 2 _ rfl

theorem mayBe_b (n : Nat) (A : Option Addr) (m c : Nat) (D : List Int) (W : World) (r : Bool) (hr : Ar.rowB n D = r) (hn1 : 1 ≤ n) (hn : n ≤ 16) (hm : D.length = m) (hml : m ≤ 400) (hD : IntsAt W A D) :
    Calls Try.prog 62 #[.int .i64 (n : Int), .slice A m c] W fun e w' => e = .returned (.bool r) ∧ Hid (Below W.heap.size W w') :=
  (mayBe_any n A m c D W hn1 hn hm (by unfold maxLen; omega) hD).mono fun _ _ ⟨he, q, hq⟩ => ⟨by rw [he, hr], by rw [hq]; exact ⟨rfl, rfl, rfl, Nat.le_refl _, fun _ _ => rfl⟩⟩

set_option maxHeartbeats 1000000 in
theorem check_any (N : Int) (dA : Option Addr) (dm dc : Nat) (D : List Int) (tA : Option Addr) (tm tc : Nat) (T : List Int) (w : World) (h : AreaAt w dA dm D tA tm T) :
    Calls Try.prog 43 #[.agg #[.int .i64 N, .slice dA dm dc, .slice tA tm tc]] w fun e w' => e = .returned (.int .i64 (Ar.checkE N D T)) ∧ Below w.heap.size w w' := by
  by_cases h1 : N < 1
  · have d1 : decide (N < 1) = true := decide_eq_true h1
    have e : Ar.okB N D T = false := by rw [Bool.eq_false_iff]; intro e; have := (Ar.ok_iff N D T).1 e; omega
    rw [Ar.check_no e]
    clear e h
    go_enter Try.func43, Try.ntmps43
    go_wp2
    go_ret
    exact ⟨rfl, below_alloc _ _⟩
  · have d1 : decide (N < 1) = false := decide_eq_false h1
    by_cases h2 : 16 < N
    · have d2 : decide (16 < N) = true := decide_eq_true h2
      have e : Ar.okB N D T = false := by rw [Bool.eq_false_iff]; intro e; have := (Ar.ok_iff N D T).1 e; omega
      rw [Ar.check_no e]
      clear e h
      go_enter Try.func43, Try.ntmps43
      go_wp2
      go_ret
      exact ⟨rfl, below_alloc _ _⟩
    · have d2 : decide (16 < N) = false := decide_eq_false h2
      obtain ⟨n, rfl⟩ := Int.eq_ofNat_of_zero_le (show 0 ≤ N by omega)
      have HOK := Lib.hid (Ar.ok_iff (n : Int) D T)
      have HCE := Lib.hid (fun h => Ar.check_yes (N := (n : Int)) (D := D) (T := T) h)
      have HCN := Lib.hid (fun h => Ar.check_no (N := (n : Int)) (D := D) (T := T) h)
      generalize Ar.checkE (n : Int) D T = ce at *
      have HN : Hid ((n : Int).toNat = n) := by unfold Hid; simp
      rw [HN.out] at HOK
      have HX := Lib.hid (Boxed.new (N := (n : Int)) (dc := dc) (tc := tc) h)
      have HB0 : Hid (Below w.heap.size w (w.alloc (.cells #[.int .i64 (n : Int), .slice dA dm dc, .slice tA tm tc] 24))) := below_alloc _ _
      clear h HN
      generalize Ar.okB (n : Int) D T = ok at *
      go_enter Try.func43, Try.ntmps43
      go_wp2_with fail
      generalize w.alloc (.cells #[.int .i64 (n : Int), .slice dA dm dc, .slice tA tm tc] 24) = W at *
      cases hd : Ar.rowB n D with
      | false =>
        have HR : Hid (ok = false) := by
          cases ok with
          | false => exact rfl
          | true => have := (HOK.out.1 rfl).2.2.1; rw [hd] at this; cases this
        with_reducible refine (mayBe_b n dA dm dc D W false hd (by omega) (by omega) HX.out.rows.dl HX.out.rows.d400 HX.out.rows.d).mono ?_
        rintro e w1 ⟨rfl, hb1⟩
        clear hd HOK
        go_wp2
        go_ret
        exact ⟨by rw [HCN.out HR.out]; rfl, below_next HB0.out hb1.out⟩
      | true =>
        have HC1 := Lib.hid (mayBe_b n dA dm dc D W true hd (by omega) (by omega) HX.out.rows.dl HX.out.rows.d400 HX.out.rows.d)
        have HC2 : Hid (∀ w1, Below W.heap.size W w1 → Calls Try.prog 62 #[.int .i64 (n : Int), .slice tA tm tc] w1 fun e w' => e = .returned (.bool (Ar.rowB n T)) ∧ Hid (Below w.heap.size w w')) := fun w1 hb =>
          (mayBe_b n tA tm tc T w1 _ rfl (by omega) (by omega) HX.out.rows.tl HX.out.rows.t400 (HX.out.rows.t.below hb)).mono fun _ _ ⟨e1, e2⟩ => ⟨e1, below_next (below_next HB0.out hb) e2.out⟩
        have HR : Hid (ok = Ar.rowB n T) := by
          cases ht : Ar.rowB n T with
          | true => exact HOK.out.2 ⟨by omega, by omega, hd, ht⟩
          | false =>
            cases ok with
            | false => exact rfl
            | true => have := (HOK.out.1 rfl).2.2.2; rw [ht] at this; cases this
        clear hd HOK
        with_reducible refine HC1.out.mono ?_
        rintro e w1 ⟨rfl, hb1⟩
        have x0 := (HX.out.below hb1.out).c0
        have x2 := (HX.out.below hb1.out).c2
        have HC3 := Lib.hid (HC2.out w1 hb1.out)
        clear HC1 HC2
        cases hT : Ar.rowB n T with
        | false =>
          rw [hT] at HC3 HR
          go_wp2_with (go_at_call 62; refine HC3.out.mono ?_; rintro e w2 ⟨rfl, hb2⟩)
          go_ret
          exact ⟨by rw [HCN.out HR.out]; rfl, hb2.out⟩
        | true =>
          rw [hT] at HC3 HR
          go_wp2_with (go_at_call 62; refine HC3.out.mono ?_; rintro e w2 ⟨rfl, hb2⟩)
          go_ret
          exact ⟨by rw [HCE.out HR.out]; rfl, hb2.out⟩

theorem check_ok {N : Int} {dA tA : Option Addr} {dm dc tm tc : Nat} {D T : List Int} (w : World) (r : Int) (hr : Ar.checkE N D T = r) (h : AreaAt w dA dm D tA tm T) :
    Calls Try.prog 43 #[.agg #[.int .i64 N, .slice dA dm dc, .slice tA tm tc]] w fun e w' => e = .returned (.int .i64 r) ∧ Hid (Below w.heap.size w w') := by
  subst hr
  exact (check_any N dA dm dc D tA tm tc T w h)

set_option maxHeartbeats 2000000 in
set_option maxRecDepth 100000 in
theorem told_any (N : Int) (dA : Option Addr) (dm dc : Nat) (D : List Int) (tA : Option Addr) (tm tc : Nat) (T : List Int) (A : Option Addr) (m c : Nat) (l : List Int) (w : World) (h : AreaAt w dA dm D tA tm T) (hm : l.length = m) (hm2 : m ≤ 1000) (hl : IntsAt w A l) :
    Calls Try.prog 73 #[.agg #[.int .i64 N, .slice dA dm dc, .slice tA tm tc], .slice A m c] w fun e w' => e = .returned (.int .i64 (Ar.toldE N D T l)) ∧ Below w.heap.size w w' := by
  have HB0 : Hid (Below w.heap.size w (w.alloc (.cells #[.int .i64 N, .slice dA dm dc, .slice tA tm tc] 24))) := below_alloc _ _
  have HX := Lib.hid (Boxed.new (N := N) (dc := dc) (tc := tc) h)
  have HL : Hid (IntsAt (w.alloc (.cells #[.int .i64 N, .slice dA dm dc, .slice tA tm tc] 24)) A l) := hl.below HB0.out
  have HM := Lib.hid hm
  clear h hl hm
  cases hok : Ar.okB N D T with
  | false =>
    have HT := Lib.hid (Ar.told_arg (l := l) hok)
    have HCK := Lib.hid (check_ok (N := N) (dc := dc) (tc := tc) _ 1 (Ar.check_no hok) HX.out.rows)
    generalize Ar.toldE N D T l = r at *
    clear hok
    go_enter Try.func73, Try.ntmps73
    go_wp2_with (go_at_call 43; refine HCK.out.mono ?_; rintro e w1 ⟨rfl, hb1⟩)
    go_ret
    exact ⟨by rw [HT.out]; rfl, below_next HB0.out hb1.out⟩
  | true =>
    have HT := Lib.hid (fun hi => Ar.told_ok (l := l) hok hi)
    have HT2 := Lib.hid (fun hi => Ar.told_name (l := l) hok hi)
    generalize Ar.toldE N D T l = r at *
    have HCK := Lib.hid (check_ok (N := N) (dc := dc) (tc := tc) _ 0 (Ar.check_yes hok) HX.out.rows)
    clear hok
    go_enter Try.func73, Try.ntmps73
    go_wp2_with (go_at_call 43; refine HCK.out.mono ?_; rintro e w1 ⟨rfl, hb1⟩)
    have HX1 := Lib.hid (HX.out.below hb1.out)
    have HL1 := Lib.hid (HL.out.below hb1.out)
    have HB1 := Lib.hid (below_next HB0.out hb1.out)
    clear HCK hb1 HX HL HB0
    go_loopg [4, 15] m (fun gk s4 s15 W => ∃ (k : Nat), k + gk = m ∧ s4 = .int .i64 0 ∧ s15 = .int .i64 k ∧ Hid (Below w1.heap.size w1 W) ∧ Hid (∀ x ∈ l.take k, Ar.hasB N x = true))
    case atStart => exact ⟨0, by omega, rfl, rfl, Below.refl _ _, fun x hx => by simp at hx⟩
    case round =>
      obtain ⟨k, hkg, rfl, rfl, HB, HK⟩ := hrel
      by_cases hlt : k < m
      · obtain ⟨gk, rfl⟩ : ∃ j, gk = j + 1 := ⟨gk - 1, by omega⟩
        obtain ⟨x, hx, hmem⟩ := Ar.some_at l k (by rw [HM.out]; exact hlt)
        obtain ⟨ad, rfl, hc⟩ := (HL1.out.below HB.out) k x hx
        have x0 := (HX1.out.below HB.out).c0
        have x1 := (HX1.out.below HB.out).c1
        have x2 := (HX1.out.below HB.out).c2
        cases hh : Ar.hasB N x with
        | true =>
          have HH : Hid (∀ W, Calls Try.prog 100 #[.agg #[.int .i64 N, .slice dA dm dc, .slice tA tm tc], .int .i64 x] W fun e w' => e = .returned (.bool true) ∧ Hid (Below W.heap.size W w')) := fun W => by rw [← hh]; exact has_any N x _ _ W
          have HK2 : Hid (∀ y ∈ l.take (k + 1), Ar.hasB N y = true) := fun y hy => by
            rw [Ar.take_snoc l k x hx] at hy
            rcases List.mem_append.1 hy with hy | hy
            · exact HK.out y hy
            · rw [List.mem_singleton.1 hy]; exact hh
          clear hx hmem hh
          go_wp2_with (go_at_call 100; refine (HH.out _).mono ?_; rintro e w2 ⟨rfl, hb2⟩)
          go_roundg gk
          case measure => omega
          case rel => exact ⟨k + 1, by omega, rfl, by first | rfl | go_num, below_next HB.out hb2.out, HK2.out⟩
        | false =>
          have HH : Hid (∀ W, Calls Try.prog 100 #[.agg #[.int .i64 N, .slice dA dm dc, .slice tA tm tc], .int .i64 x] W fun e w' => e = .returned (.bool false) ∧ Hid (Below W.heap.size W w')) := fun W => by rw [← hh]; exact has_any N x _ _ W
          have HR := Lib.hid (HT2.out (Ar.ins_not hmem hh))
          clear hx hmem hh
          go_wp2_with (go_at_call 100; refine (HH.out _).mono ?_; rintro e w2 ⟨rfl, hb2⟩)
          go_ret
          exact ⟨by rw [HR.out]; rfl, below_next (below_next HB1.out HB.out) hb2.out⟩
      · have HR := Lib.hid (HT.out ((Ar.ins_iff N l).2 (fun x hx => HK.out x (by rw [List.take_of_length_le (by rw [HM.out]; omega)]; exact hx))))
        have hk : k = m := by omega
        subst hk
        go_wp2
        go_ret
        exact ⟨by rw [HR.out]; rfl, below_next HB1.out HB.out⟩
end Go.Proofs.Ytbacakblboodeaa
