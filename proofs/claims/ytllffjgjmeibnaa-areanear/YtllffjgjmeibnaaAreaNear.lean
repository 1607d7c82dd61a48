/- Every call of the law that none of the legs to a node is less than what is nearest, and one is just that, answers true: for every area, every node and every list of nodes. No conditions. -/
import Derived.Test.YtllffjgjmeibnaaRows
import Derived.Test.YtllffjgjmeibnaaAreaOpen
import Derived.WalkKit
import Derived.ProofKit
import Derived.OpenShut
import Derived.ShutString
import Derived.ChangeOld
import Derived.Below
import Derived.SizedLaws
namespace Go.Proofs.Ytllffjgjmeibnaa.areaNear
open Go.ChangeShapes Go.WideShapes Go.ChangeAt Go.RowKit
open Go.ChangeMaps (open_string shut_string)
set_option linter.unusedVariables false

theorem own : ownKnob Try.prog.godebug = none := by kernel_rfl
theorem laidOut : laidOutB Try.prog = true := by kernel_rfl

open Go.Proofs.Ytllffjgjmeibnaa

theorem long_any (N : Int) (dA : Option Addr) (dm dc : Nat) (tA : Option Addr) (tm tc : Nat) (t : Int) (A : Option Addr) (m c : Nat) (w : World) (hd : dm ≤ maxLen) (ht : tm ≤ maxLen) (hm : m ≤ maxLen) (h : 90 < m ∨ 400 < dm ∨ 400 < tm) :
    Calls Try.prog 5 #[.agg #[.int .i64 N, .slice dA dm dc, .slice tA tm tc], .int .i64 t, .slice A m c] w fun e w' => e = .returned (.bool true) ∧ Below w.heap.size w w' := by
  unfold maxLen at hd ht hm
  have HX : Hid (Box (w.alloc (.cells #[.int .i64 N, .slice dA dm dc, .slice tA tm tc] 24)) w.heap.size (boxA N dA dm dc tA tm tc) 24) := Box.new _ _ _
  have HB0 : Hid (Below w.heap.size w (w.alloc (.cells #[.int .i64 N, .slice dA dm dc, .slice tA tm tc] 24))) := below_alloc _ _
  by_cases h1 : 90 < m
  · have d1 : decide ((90 : Int) < (m : Int)) = true := decide_eq_true (by omega)
    go_enter Try.func5, Try.ntmps5
    go_wp2_with (go_at_call 6; refine (awake_any _).mono ?_; rintro e w1 ⟨rfl, hb1⟩)
    go_ret
    exact ⟨rfl, below_next HB0.out hb1⟩
  · have d1 : decide ((90 : Int) < (m : Int)) = false := decide_eq_false (by omega)
    by_cases h2 : 400 < dm
    · have d2 : decide ((400 : Int) < (dm : Int)) = true := decide_eq_true (by omega)
      go_enter Try.func5, Try.ntmps5
      go_wp2_with fail
      with_reducible refine (awake_any _).mono ?_
      rintro e w1 ⟨rfl, hb1⟩
      have x1 : w1.cell? ⟨w.heap.size, 1, none⟩ = some (.slice dA dm dc) := (HX.out.below hb1).cell 1 _ rfl
      have HB1 := Lib.hid (below_next HB0.out hb1)
      clear hb1
      go_wp2
      go_ret
      exact ⟨rfl, HB1.out⟩
    · have d2 : decide ((400 : Int) < (dm : Int)) = false := decide_eq_false (by omega)
      have d3 : decide ((400 : Int) < (tm : Int)) = true := decide_eq_true (by omega)
      go_enter Try.func5, Try.ntmps5
      go_wp2_with fail
      with_reducible refine (awake_any _).mono ?_
      rintro e w1 ⟨rfl, hb1⟩
      have x1 : w1.cell? ⟨w.heap.size, 1, none⟩ = some (.slice dA dm dc) := (HX.out.below hb1).cell 1 _ rfl
      have x2 : w1.cell? ⟨w.heap.size, 2, none⟩ = some (.slice tA tm tc) := (HX.out.below hb1).cell 2 _ rfl
      have HB1 := Lib.hid (below_next HB0.out hb1)
      clear hb1
      go_wp2
      go_ret
      exact ⟨rfl, HB1.out⟩

theorem legS_ok {N : Int} {D T : List Int} {f t : Int} (hok : Ar.okB N D T = true) (hf : Ar.hasB N f = true) (ht : Ar.hasB N t = true) : Ar.legS N D T f t = (Ar.at2 N D f t, Ar.at2 N T f t, 0) := by
  unfold Ar.legS
  rw [if_pos (Ar.told_ok hok (by rw [Ar.ins_cons, Ar.ins_cons, hf, ht]; rfl))]

/-- what Near's answer says of the legs -/
theorem nearS_cases (N : Int) (D T : List Int) (t : Int) (l : List Int) : (∃ e, e ≠ 0 ∧ Ar.nearS N D T t l = (0, e)) ∨
    ∃ a, Ar.nearS N D T t l = (a, 0) ∧ Ar.okB N D T = true ∧ Ar.insB N l = true ∧ Ar.hasB N t = true ∧ (∀ x ∈ l, x ≠ t → a ≤ Ar.at2 N D x t) ∧ ∃ x ∈ l, x ≠ t ∧ Ar.at2 N D x t = a := by
  rcases told_cases N D T l with ⟨h0, hok, hin⟩ | h0
  · cases hbt : Ar.hasB N t with
    | false => exact .inl ⟨5, by omega, by unfold Ar.nearS; rw [if_pos h0, hbt]; rfl⟩
    | true =>
      by_cases hm : 100 < l.length
      · exact .inl ⟨4, by omega, by unfold Ar.nearS; rw [if_pos h0, if_pos hbt, if_pos hm]⟩
      · by_cases ha : Ar.nearF N D t l = -1
        · exact .inl ⟨2, by omega, by unfold Ar.nearS; rw [if_pos h0, if_pos hbt, if_neg hm, if_pos ha]⟩
        · right
          refine ⟨Ar.nearF N D t l, by unfold Ar.nearS; rw [if_pos h0, if_pos hbt, if_neg hm, if_neg ha], hok, hin, rfl, ?_⟩
          rcases Ar.near_inv (Ar.ok_of hok) hbt l hin with h | h
          · exact absurd h.1 ha
          · exact ⟨h.2.2.1, h.2.2.2⟩
  · have hne : Ar.toldE N D T l ≠ 0 := by rcases h0 with h0 | h0 <;> omega
    exact .inl ⟨_, hne, by unfold Ar.nearS; rw [if_neg hne]⟩

/-- one of the legs so far is what Near tells -/
def someB (N : Int) (D : List Int) (t a : Int) (l : List Int) : Bool := l.any fun x => decide (x ≠ t) && decide (Ar.at2 N D x t = a)
theorem someB_snoc (N : Int) (D : List Int) (t a : Int) (l : List Int) (x : Int) : someB N D t a (l ++ [x]) = (someB N D t a l || (decide (x ≠ t) && decide (Ar.at2 N D x t = a))) := by unfold someB; simp
theorem someB_true {N : Int} {D : List Int} {t a : Int} {l : List Int} (h : ∃ x ∈ l, x ≠ t ∧ Ar.at2 N D x t = a) : someB N D t a l = true := by
  obtain ⟨x, h1, h2, h3⟩ := h
  exact List.any_eq_true.2 ⟨x, h1, by simp [h2, h3]⟩

set_option maxHeartbeats 4000000 in
set_option maxRecDepth 100000 in
theorem short_any (N : Int) (dA : Option Addr) (dm dc : Nat) (D : List Int) (tA : Option Addr) (tm tc : Nat) (T : List Int) (t : Int) (A : Option Addr) (m c : Nat) (l : List Int) (w : World) (h : AreaAt w dA dm D tA tm T) (hm : l.length = m) (hm2 : m ≤ 90) (hl : IntsAt w A l) :
    Calls Try.prog 5 #[.agg #[.int .i64 N, .slice dA dm dc, .slice tA tm tc], .int .i64 t, .slice A m c] w fun e w' => e = .returned (.bool true) ∧ Below w.heap.size w w' := by
  have d1 : decide ((90 : Int) < (m : Int)) = false := decide_eq_false (by omega)
  have d2 : decide ((400 : Int) < (dm : Int)) = false := decide_eq_false (by have := h.d400; omega)
  have d3 : decide ((400 : Int) < (tm : Int)) = false := decide_eq_false (by have := h.t400; omega)
  have HB0 : Hid (Below w.heap.size w (w.alloc (.cells #[.int .i64 N, .slice dA dm dc, .slice tA tm tc] 24))) := below_alloc _ _
  have HX := Lib.hid (Boxed.new (N := N) (dc := dc) (tc := tc) h)
  have HL : Hid (IntsAt (w.alloc (.cells #[.int .i64 N, .slice dA dm dc, .slice tA tm tc] 24)) A l) := hl.below HB0.out
  have HM := Lib.hid hm
  have HC := Lib.hid (nearS_cases N D T t l)
  clear h hl hm
  go_enter Try.func5, Try.ntmps5
  go_wp2_with fail
  generalize w.alloc (.cells #[.int .i64 N, .slice dA dm dc, .slice tA tm tc] 24) = W at *
  with_reducible refine (awake_any W).mono ?_
  rintro e w1 ⟨rfl, hb1⟩
  have HX1 := Lib.hid (HX.out.below hb1)
  have HL1 := Lib.hid (HL.out.below hb1)
  have HB1 := Lib.hid (below_next HB0.out hb1)
  clear hb1 HX HL HB0
  have x0 := HX1.out.c0
  have x1 := HX1.out.c1
  have x2 := HX1.out.c2
  go_wp2_with fail
  rcases HC.out with ⟨e, hne, he⟩ | ⟨a, he, hok, hin, hbt, hle, hsome⟩
  · have d4 : (e != 0) = true := bne_iff_ne.2 hne
    with_reducible refine (near_b (w := w1) t A m c l 0 e HX1.out.rows HM.out (by omega) HL1.out (Below.refl _ _) he).mono ?_
    rintro en w2 ⟨rfl, hb2⟩
    have HB2 := Lib.hid (below_next HB1.out hb2.out)
    clear hb2 he hne HC
    go_wp2
    go_ret
    exact ⟨rfl, HB2.out⟩
  · with_reducible refine (near_b (w := w1) t A m c l a 0 HX1.out.rows HM.out (by omega) HL1.out (Below.refl _ _) he).mono ?_
    rintro en w2 ⟨rfl, hb2⟩
    have HX2 := Lib.hid (HX1.out.below hb2.out)
    have HL2 := Lib.hid (HL1.out.below hb2.out)
    have HB2 := Lib.hid (below_next HB1.out hb2.out)
    have HIN := Lib.hid ((Ar.ins_iff N l).1 hin)
    have HOK := Lib.hid hok
    have HBT := Lib.hid hbt
    have HLE := Lib.hid hle
    have HSO := Lib.hid (someB_true hsome)
    clear hb2 he HC x0 x1 x2 hin hok hbt hle hsome HX1 HL1 HB1
    go_wp2
    go_loopg [6, 9, 45] m (fun gk s6 s9 s45 W => ∃ (k : Nat), k + gk = m ∧ s6 = .bool false ∧ s9 = .bool (someB N D t a (l.take k)) ∧ s45 = .int .i64 k ∧ Hid (Below w2.heap.size w2 W))
    case atStart => exact ⟨0, by omega, rfl, rfl, rfl, Below.refl _ _⟩
    case round =>
      obtain ⟨k, hkg, rfl, rfl, rfl, HB⟩ := hrel
      have HX3 := Lib.hid (HX2.out.below HB.out)
      have HB3 := Lib.hid (below_next HB2.out HB.out)
      by_cases hlt : k < m
      · obtain ⟨gk, rfl⟩ : ∃ j, gk = j + 1 := ⟨gk - 1, by omega⟩
        obtain ⟨x, hx, hmem⟩ := Ar.some_at l k (by rw [HM.out]; exact hlt)
        obtain ⟨ad, rfl, hc⟩ := (HL2.out.below HB.out) k x hx
        have hsn := someB_snoc N D t a (l.take k) x
        rw [← Ar.take_snoc l k x hx] at hsn
        have HSN := Lib.hid hsn
        have HLX := Lib.hid (HLE.out x hmem)
        have HLG := Lib.hid (leg_b (N := N) (dc := dc) (tc := tc) (W := wr) x t _ _ _ HX3.out.rows (Below.refl _ _) (legS_ok HOK.out (HIN.out x hmem) HBT.out))
        have x0 := HX3.out.c0
        have x1 := HX3.out.c1
        have x2 := HX3.out.c2
        clear hsn hx hmem
        generalize someB N D t a (l.take k) = so at *
        generalize Ar.at2 N D x t = dd at *
        generalize Ar.at2 N T x t = tt at *
        go_wp2_with fail
        with_reducible refine HLG.out.mono ?_
        rintro en w3 ⟨rfl, hb3⟩
        have HB4 := Lib.hid (below_next HB.out hb3.out)
        clear hb3 x0 x1 x2 HLG
        by_cases hxt : x = t
        · have d4 : (x != t) = false := by rw [hxt]; simp
          have HSN2 : Hid (someB N D t a (l.take (k + 1)) = so) := by unfold Hid; rw [HSN.out]; simp [hxt]
          clear hxt HSN HLX
          cases so
          all_goals
            go_wp2
            go_roundg gk
            case measure => omega
            case rel => exact ⟨k + 1, by omega, rfl, by rw [HSN2.out], by first | rfl | go_num, HB4.out⟩
        · have d4 : (x != t) = true := bne_iff_ne.2 hxt
          have d5 : decide (dd < a) = false := decide_eq_false (by have := HLX.out hxt; omega)
          by_cases hda : dd = a
          · have d6 : (dd == a) = true := beq_iff_eq.2 hda
            have HSN2 : Hid (someB N D t a (l.take (k + 1)) = true) := by unfold Hid; rw [HSN.out]; simp [hxt, hda]
            clear hxt HSN HLX hda
            cases so
            all_goals
              go_wp2
              go_roundg gk
              case measure => omega
              case rel => exact ⟨k + 1, by omega, rfl, by rw [HSN2.out], by first | rfl | go_num, HB4.out⟩
          · have d6 : (dd == a) = false := beq_eq_false_iff_ne.2 hda
            have HSN2 : Hid (someB N D t a (l.take (k + 1)) = so) := by unfold Hid; rw [HSN.out]; simp [hda]
            clear hxt HSN HLX hda
            cases so
            all_goals
              go_wp2
              go_roundg gk
              case measure => omega
              case rel => exact ⟨k + 1, by omega, rfl, by rw [HSN2.out], by first | rfl | go_num, HB4.out⟩
      · have hk : k = m := by omega
        subst hk
        have HTK : Hid (someB N D t a (l.take k) = true) := by unfold Hid; rw [List.take_of_length_le (by rw [HM.out]; omega)]; exact HSO.out
        rw [HTK.out]
        go_wp2
        go_ret
        exact ⟨rfl, HB3.out⟩

theorem walk (N : Int) (dA : Option Addr) (dm dc : Nat) (D : List Int) (tA : Option Addr) (tm tc : Nat) (T : List Int) {W : World} (hv : AreaCame W (.agg #[.int .i64 N, .slice dA dm dc, .slice tA tm tc]) N dA dm dc D tA tm tc T) (t : Int) (wt : (Lit.int .i64 t).wf = true) (A : Option Addr) (m c : Nat) (l : List Int) (hl : l.length = m) (hmc : m ≤ c) (hcm : c ≤ maxLen) (hi : IntsAt W A l) :
    Calls Try.prog 5 #[.agg #[.int .i64 N, .slice dA dm dc, .slice tA tm tc], .int .i64 t, .slice A m c] W fun e w' => e = .returned (.bool true) ∧ Below W.heap.size W w' := by
  by_cases h : 90 < m ∨ 400 < dm ∨ 400 < tm
  · exact long_any N dA dm dc tA tm tc t A m c W hv.dmx hv.tmx (Nat.le_trans hmc hcm) h
  · exact short_any N dA dm dc D tA tm tc T t A m c l W (hv.at_ (by omega) (by omega)) hl (by omega) hi

set_option maxRecDepth 100000 in
theorem lifted (os : Os) (started : os.Started) (H : Type) (enc : TypeId × Value → H) :
    ReturnsInHanded {} Try.checked os 5 .any (Rows.areaNearSpec.pre6 enc Try.prog Try.f5 Rows.areaNearRow.domain false) (Rows.areaNearSpec.post enc Try.prog Try.f5 false true false false) := by
  refine returnsInHanded_of_change_sized (C := Try.checked) own started (by kernel_rfl) Try.func5
    (ChangeSpec.witness6 (enc := enc) (C := Try.checked) false ⟨#[], #[.agg #[.int .i64 0, .slice none 0 0, .slice none 0 0], .int .i64 0, .slice none 0 0], []⟩ 8 (by kernel_rfl) (by kernel_rfl) (by kernel_rfl) (by kernel_rfl)) ?_
  intro W base args ds gs before hval0 hW _ hsz0 _
  have hsz : (DataW.weightsEach Try.prog (Try.f5.params.toList ++ Rows.areaNearSpec.plain.varTypes Try.prog) (ds ++ gs)).all (· ≤ reachBytes) = true := hsz0
  have hval : ∀ (j : Nat) t v, Try.f5.params[j]? = some t → args[j]? = some v → Value.okWide Try.prog W .any base t v := hval0
  have hW' := hW
  obtain ⟨p, q, hA0, hV, rfl, hfz, hnd⟩ := hW
  have hA : DataW.TrodAll enc Try.prog W 0 (fun _ => true) true Try.f5.params.toList args.toList ds p := hA0
  rw [Try.params5] at hA hval hsz
  obtain ⟨v0, vs0, d0, ds0, p0, q0, hargs, rfl, rfl, h0, r0⟩ := trodAll_cons hA
  obtain ⟨v1, vs1, d1, ds1, p1, q1, rfl, rfl, rfl, h1, r1⟩ := trodAll_cons r0
  obtain ⟨v2, vs2, d2, ds2, p2, q2, rfl, rfl, rfl, h2, r2⟩ := trodAll_cons r1
  obtain ⟨rfl, rfl, rfl⟩ := trodAll_nil r2
  obtain rfl : args = #[v0, v1, v2] := by cases args; simp_all
  obtain ⟨rfl, rfl⟩ := trodVars_none hV
  have k0 := h0
  have lt0 : ∀ x ∈ p0, x.block < W.heap.size := by obtain ⟨m, hm⟩ := k0; exact DataW.trod_lt m _ _ _ hm
  obtain ⟨N0, dA0, dm0, dc0, D0, tA0, tm0, tc0, T0, hv0⟩ := open_area (hval 0 24 v0 rfl rfl) h0
  obtain rfl := hv0.val
  obtain ⟨a1, rfl, rfl, rfl, w1⟩ := open_int Try.underlying3 (hval 1 3 v1 rfl rfl) h1
  have k2 := h2
  have lt2 : ∀ x ∈ p2, x.block < W.heap.size := by obtain ⟨m, hm⟩ := k2; exact DataW.trod_lt m _ _ _ hm
  obtain ⟨a2, len2, cap2, l2, rfl, hl2, hlc2, hcm2, hv2⟩ := open_nodes (hval 2 25 v2 rfl rfl) h2
  clear hA0 hval0
  refine (walk N0 dA0 dm0 dc0 D0 tA0 tm0 tc0 T0 hv0 a1 w1 a2 len2 cap2 l2 hl2 hlc2 hcm2 hv2).mono fun e W' ⟨he, bel⟩ => ?_
  subst he
  exact ⟨_, rfl, _, _, _, [], _, [], hW', trodAll_mk1 (shut_bool Try.underlying4 _), (trodAll_cons_mk (Below.trod laidOut (by kernel_rfl) (of_decide_eq_true (by kernel_rfl)) k0 bel lt0) (trodAll_cons_mk (shut_int Try.underlying3 w1) (trodAll_cons_mk (Below.trod laidOut (by kernel_rfl) (of_decide_eq_true (by kernel_rfl)) k2 bel lt2) trodAll_mk0))), rfl, bel.frame _, fun h => by cases h⟩

theorem over : Rows.areaNearRow.holds Try.pinned (OpenSpec.ofChange Rows.areaNearSpec) :=
  OpenClaim.holds_of_wide 5 Try.f5 rfl rfl rfl rfl rfl rfl rfl ⟨rfl, rfl, rfl, rfl, rfl⟩ rfl rfl rfl rfl rfl (by kernel_rfl) Try.func5 (by kernel_rfl)
    (of_decide_eq_true (by kernel_rfl)) (by unfold Func.isWrapper; first | (rw [if_pos (by decide +kernel)]; kernel_rfl) | (rw [if_neg (by decide +kernel)]; exact ⟨rfl, rfl⟩))
    (fun os started H enc _ => lifted os started H enc)

theorem proved : Rows.AreaNearSaid := over
end Go.Proofs.Ytllffjgjmeibnaa.areaNear
