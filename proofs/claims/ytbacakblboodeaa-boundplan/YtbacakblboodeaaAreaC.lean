/- Contracts of package area: Leg, Near. -/
import Derived.Test.YtbacakblboodeaaAreaB
import Derived.OwnWalk
namespace Go.Proofs.Ytbacakblboodeaa
open Go.RowKit
set_option linter.unusedVariables false

theorem box_row2 (w : World) (f t : Int) (ty : TypeId) : IntsAt (w.alloc (.cells #[.int .i64 f, .int .i64 t] ty)) (some ⟨w.heap.size, 0, none⟩) [f, t] := box_ints (Box.new w _ ty) (by simp)

theorem ints1 (w : World) (a : Int) (ty : TypeId) : IntsAt (w.alloc (.cells #[.int .i64 a] ty)) (some ⟨w.heap.size, 0, none⟩) [a] := box_ints (Box.new w _ ty) (by simp)

theorem told_b {N : Int} {dA tA : Option Addr} {dm dc tm tc : Nat} {D T : List Int} (A : Option Addr) (m c : Nat) (l : List Int) (w : World) (r : Int) (hr : Ar.toldE N D T l = r) (h : AreaAt w dA dm D tA tm T) (hm : l.length = m) (hm2 : m ≤ 1000) (hl : IntsAt w A l) :
    Calls Try.prog 73 #[.agg #[.int .i64 N, .slice dA dm dc, .slice tA tm tc], .slice A m c] w fun e w' => e = .returned (.int .i64 r) ∧ Hid (Below w.heap.size w w') := by
  subst hr
  exact told_any N dA dm dc D tA tm tc T A m c l w h hm hm2 hl

theorem told_cases (N : Int) (D T l : List Int) : Ar.toldE N D T l = 0 ∧ Ar.okB N D T = true ∧ Ar.insB N l = true ∨ Ar.toldE N D T l = 5 ∧ Ar.okB N D T = true ∧ Ar.insB N l = false ∨ Ar.toldE N D T l = 1 ∧ Ar.okB N D T = false := by
  cases h : Ar.okB N D T
  · exact .inr (.inr ⟨Ar.told_arg h, rfl⟩)
  · cases h2 : Ar.insB N l
    · exact .inr (.inl ⟨Ar.told_name h h2, rfl, rfl⟩)
    · exact .inl ⟨Ar.told_ok h h2, rfl, rfl⟩

theorem at_ok {N : Int} {w : World} {dA tA : Option Addr} {dm tm : Nat} {D T : List Int} {n f t : Nat} (ho : Ar.Ok N D T n) (h : AreaAt w dA dm D tA tm T) (hf : f < n) (ht : t < n) :
    ∃ (p : Nat) (ad at' : Addr), p = f * n + t ∧ p < dm ∧ p < tm ∧ dA = some ad ∧ tA = some at' ∧ w.cell? (ad.add p) = some (.int .i64 (Ar.at2 N D (f : Int) (t : Int))) ∧ w.cell? (at'.add p) = some (.int .i64 (Ar.at2 N T (f : Int) (t : Int))) := by
  have hp := Ar.place_lt hf ht
  have h1 : f * n + t < D.length := by rw [ho.dl]; exact hp
  have h2 : f * n + t < T.length := by rw [ho.tl]; exact hp
  obtain ⟨x, hx, _⟩ := Ar.some_at D _ h1
  obtain ⟨y, hy, _⟩ := Ar.some_at T _ h2
  obtain ⟨ad, e1, c1⟩ := h.d _ _ hx
  obtain ⟨at', e2, c2⟩ := h.t _ _ hy
  refine ⟨f * n + t, ad, at', rfl, by have := h.dl; omega, by have := h.tl; omega, e1, e2, ?_, ?_⟩
  · rw [c1, Ar.at2_eq ho.cast, Ar.getD_of hx]
  · rw [c2, Ar.at2_eq ho.cast, Ar.getD_of hy]

set_option maxHeartbeats 2000000 in
set_option maxRecDepth 100000 in
theorem leg_any (N : Int) (dA : Option Addr) (dm dc : Nat) (D : List Int) (tA : Option Addr) (tm tc : Nat) (T : List Int) (f t : Int) (w : World) (h : AreaAt w dA dm D tA tm T) :
    Calls Try.prog 47 #[.agg #[.int .i64 N, .slice dA dm dc, .slice tA tm tc], .int .i64 f, .int .i64 t] w fun e w' => e = .returned (.tuple #[.int .i64 (Ar.legS N D T f t).1, .int .i64 (Ar.legS N D T f t).2.1, .int .i64 (Ar.legS N D T f t).2.2]) ∧ Below w.heap.size w w' := by
  have HB0 : Hid (Below w.heap.size w ((w.alloc (.cells #[.int .i64 N, .slice dA dm dc, .slice tA tm tc] 24)).alloc (.cells #[.int .i64 f, .int .i64 t] 3))) := below_next (below_alloc _ _) (below_alloc _ _)
  have HX : Hid (Boxed ((w.alloc (.cells #[.int .i64 N, .slice dA dm dc, .slice tA tm tc] 24)).alloc (.cells #[.int .i64 f, .int .i64 t] 3)) w.heap.size N dA dm dc D tA tm tc T) := (Boxed.new (N := N) (dc := dc) (tc := tc) h).below (below_alloc _ _)
  have HL : Hid (IntsAt ((w.alloc (.cells #[.int .i64 N, .slice dA dm dc, .slice tA tm tc] 24)).alloc (.cells #[.int .i64 f, .int .i64 t] 3)) (some ⟨w.heap.size + 1, 0, none⟩) [f, t]) := by
    have := box_row2 (w.alloc (.cells #[.int .i64 N, .slice dA dm dc, .slice tA tm tc] 24)) f t 3
    unfold Hid
    simpa using this
  clear h
  rcases told_cases N D T [f, t] with ⟨h0, hok, hin⟩ | h0
  · have e0 : Ar.legS N D T f t = (Ar.at2 N D f t, Ar.at2 N T f t, 0) := by unfold Ar.legS; rw [if_pos h0]
    rw [e0]
    clear e0
    have ho := Ar.ok_of hok
    generalize N.toNat = n at ho
    obtain ⟨hf, ht⟩ : Ar.hasB N f = true ∧ Ar.hasB N t = true := by
      rw [Ar.ins_cons, Ar.ins_cons, Bool.and_eq_true, Bool.and_eq_true] at hin
      exact ⟨hin.1, hin.2.1⟩
    obtain ⟨f, rfl, hf'⟩ := Ar.has_nat ho.cast hf
    obtain ⟨t, rfl, ht'⟩ := Ar.has_nat ho.cast ht
    clear hf ht
    obtain ⟨p, ad, at', hp, hpd, hpt, rfl, rfl, hc1, hc2⟩ := at_ok ho HX.out.rows hf' ht'
    have HT := Lib.hid (told_b (N := N) (dc := dc) (tc := tc) (some ⟨w.heap.size + 1, 0, none⟩) 2 2 [(f : Int), (t : Int)] _ 0 h0 HX.out.rows rfl (by omega) HL.out)
    have HP : Hid (∀ W, Calls Try.prog 74 #[.agg #[.int .i64 N, .slice (some ad) dm dc, .slice (some at') tm tc], .int .i64 (f : Int), .int .i64 (t : Int)] W fun e w' => e = .returned (.int .i64 (p : Int)) ∧ Hid (Below W.heap.size W w')) := fun W => by
      rw [hp]; exact place_any N _ _ n f t W ho.cast ho.n16 hf' ht'
    have HC1 := Lib.hid hc1
    have HC2 := Lib.hid hc2
    clear hc1 hc2 hp ho hf' ht' h0 hok hin HL
    generalize Ar.at2 N D (f : Int) (t : Int) = dd at *
    generalize Ar.at2 N T (f : Int) (t : Int) = tt at *
    go_enter Try.func47, Try.ntmps47
    go_wp2_with fail
    generalize (w.alloc (.cells #[.int .i64 N, .slice (some ad) dm dc, .slice (some at') tm tc] 24)).alloc (.cells #[.int .i64 (f : Int), .int .i64 (t : Int)] 3) = W at *
    with_reducible refine HT.out.mono ?_
    rintro e w1 ⟨rfl, hb1⟩
    have HB1 := Lib.hid (below_next HB0.out hb1.out)
    have HX1 := Lib.hid (HX.out.below hb1.out)
    have HD1 : Hid (w1.cell? (ad.add p) = some (.int .i64 dd)) := by unfold Hid; rw [hb1.out.cell (p := ad.add p) (lt_of_cell HC1.out)]; exact HC1.out
    have HD2 : Hid (w1.cell? (at'.add p) = some (.int .i64 tt)) := by unfold Hid; rw [hb1.out.cell (p := at'.add p) (lt_of_cell HC2.out)]; exact HC2.out
    have x0 := HX1.out.c0
    have x1 := HX1.out.c1
    have x2 := HX1.out.c2
    clear HT hb1 HX HB0 HC1 HC2
    go_wp2_with fail
    with_reducible refine (HP.out _).mono ?_
    rintro e w2 ⟨rfl, hb2⟩
    clear x0 x1 x2
    have x1 := (HX1.out.below hb2.out).c1
    have x2 := (HX1.out.below hb2.out).c2
    have y1 : w2.cell? (ad.add p) = some (.int .i64 dd) := by rw [hb2.out.cell (p := ad.add p) (lt_of_cell HD1.out)]; exact HD1.out
    have y2 : w2.cell? (at'.add p) = some (.int .i64 tt) := by rw [hb2.out.cell (p := at'.add p) (lt_of_cell HD2.out)]; exact HD2.out
    have HB2 := Lib.hid (below_next HB1.out hb2.out)
    have i0 : (0 : Int) ≤ (p : Int) := by omega
    have i1 : (p : Int) < (dm : Int) := by omega
    have i2 : (p : Int) < (tm : Int) := by omega
    clear hb2 HP HX1 HB1 HD1 HD2
    go_wp2
    go_quiet (fail)
    go_wp2
    go_ret3
    exact ⟨rfl, HB2.out.trans ⟨rfl, rfl, rfl, Nat.le_refl _, fun _ _ => rfl⟩⟩
  · have hne : Ar.toldE N D T [f, t] ≠ 0 := by rcases h0 with h0 | h0 <;> omega
    have e0 : Ar.legS N D T f t = (0, 0, Ar.toldE N D T [f, t]) := by unfold Ar.legS; rw [if_neg hne]
    rw [e0]
    clear e0 h0
    have HT := Lib.hid (told_b (N := N) (dc := dc) (tc := tc) (some ⟨w.heap.size + 1, 0, none⟩) 2 2 [f, t] _ _ rfl HX.out.rows rfl (by omega) HL.out)
    generalize Ar.toldE N D T [f, t] = r at *
    have d0 : (r != 0) = true := bne_iff_ne.2 hne
    clear hne HL
    go_enter Try.func47, Try.ntmps47
    go_wp2_with fail
    generalize (w.alloc (.cells #[.int .i64 N, .slice dA dm dc, .slice tA tm tc] 24)).alloc (.cells #[.int .i64 f, .int .i64 t] 3) = W at *
    with_reducible refine HT.out.mono ?_
    rintro e w1 ⟨rfl, hb1⟩
    go_wp2
    go_ret3
    exact ⟨rfl, below_next HB0.out hb1.out⟩
end Go.Proofs.Ytbacakblboodeaa
