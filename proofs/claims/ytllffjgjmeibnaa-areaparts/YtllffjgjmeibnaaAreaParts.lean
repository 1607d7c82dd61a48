/- Every call of the law that a tour in two parts, by way of the depot, is the sum of both answers true: for every area and every two lists of nodes. No conditions. -/
import Derived.Test.YtllffjgjmeibnaaRows
import Derived.Test.YtllffjgjmeibnaaAreaOpenW
import Derived.WalkKit
import Derived.ProofKit
import Derived.OpenShut
import Derived.ShutString
import Derived.ChangeOld
import Derived.Below
import Derived.SizedLaws
namespace Go.Proofs.Ytllffjgjmeibnaa.areaParts
open Go.ChangeShapes Go.WideShapes Go.ChangeAt Go.RowKit
open Go.ChangeMaps (open_string shut_string)
set_option linter.unusedVariables false

theorem own : ownKnob Try.prog.godebug = none := by kernel_rfl
theorem laidOut : laidOutB Try.prog = true := by kernel_rfl

open Go.Proofs.Ytllffjgjmeibnaa

theorem long_any (N : Int) (dA : Option Addr) (dm dc : Nat) (tA : Option Addr) (tm tc : Nat) (A : Option Addr) (m c : Nat) (B : Option Addr) (k d : Nat) (w : World) (hd : dm ≤ maxLen) (ht : tm ≤ maxLen) (hm : m ≤ 140737488355328) (hk : k ≤ 140737488355328) (h : 90 < m + k ∨ 400 < dm ∨ 400 < tm) :
    Calls Try.prog 4 #[.agg #[.int .i64 N, .slice dA dm dc, .slice tA tm tc], .slice A m c, .slice B k d] w fun e w' => e = .returned (.bool true) ∧ Below w.heap.size w w' := by
  unfold maxLen at hd ht
  have HX : Hid (Box (w.alloc (.cells #[.int .i64 N, .slice dA dm dc, .slice tA tm tc] 24)) w.heap.size (boxA N dA dm dc tA tm tc) 24) := Box.new _ _ _
  have HB0 : Hid (Below w.heap.size w (w.alloc (.cells #[.int .i64 N, .slice dA dm dc, .slice tA tm tc] 24))) := below_alloc _ _
  by_cases h1 : 90 < m + k
  · have d1 : decide ((90 : Int) < (m : Int) + (k : Int)) = true := decide_eq_true (by omega)
    go_enter Try.func4, Try.ntmps4
    go_wp2_with (go_at_call 6; refine (awake_any _).mono ?_; rintro e w1 ⟨rfl, hb1⟩)
    go_ret
    exact ⟨rfl, below_next HB0.out hb1⟩
  · have d1 : decide ((90 : Int) < (m : Int) + (k : Int)) = false := decide_eq_false (by omega)
    by_cases h2 : 400 < dm
    · have d2 : decide ((400 : Int) < (dm : Int)) = true := decide_eq_true (by omega)
      go_enter Try.func4, Try.ntmps4
      go_wp2_with fail
      with_reducible refine (awake_any _).mono ?_
      rintro e w1 ⟨rfl, hb1⟩
      have x1 : w1.cell? ⟨w.heap.size, 1, none⟩ = some (.slice dA dm dc) := (HX.out.below hb1).cell 1 _ rfl
      have HB1 := Lib.hid (below_next HB0.out hb1)
      clear hb1
      go_wp2
      go_ret
      exact ⟨rfl, HB1.out⟩
    · have d2 : decide ((400 : Int) < (dm : Int)) = false := decide_eq_false (by omega)
      have d3 : decide ((400 : Int) < (tm : Int)) = true := decide_eq_true (by omega)
      go_enter Try.func4, Try.ntmps4
      go_wp2_with fail
      with_reducible refine (awake_any _).mono ?_
      rintro e w1 ⟨rfl, hb1⟩
      have x1 : w1.cell? ⟨w.heap.size, 1, none⟩ = some (.slice dA dm dc) := (HX.out.below hb1).cell 1 _ rfl
      have x2 : w1.cell? ⟨w.heap.size, 2, none⟩ = some (.slice tA tm tc) := (HX.out.below hb1).cell 2 _ rfl
      have HB1 := Lib.hid (below_next HB0.out hb1)
      clear hb1
      go_wp2
      go_ret
      exact ⟨rfl, HB1.out⟩

/-- what the four tours have to do with one another -/
def Fits (r1 r2 r3 s1 s2 s3 q1 q2 q3 n1 n2 n3 : Int) : Prop :=
  (r3 ≠ 0 ∧ q3 = r3) ∨ (r3 = 0 ∧ s3 ≠ 0 ∧ q3 = s3) ∨
  (r3 = 0 ∧ s3 = 0 ∧ q3 = 0 ∧ n1 = 0 ∧ n2 = 0 ∧ n3 = 0 ∧ q1 = r1 + s1 ∧ q2 = r2 + s2 ∧ (0 ≤ r1 ∧ r1 ≤ 1000000000) ∧ (0 ≤ r2 ∧ r2 ≤ 1000000000) ∧ (0 ≤ s1 ∧ s1 ≤ 1000000000) ∧ (0 ≤ s2 ∧ s2 ≤ 1000000000))

theorem tourS_ok {N : Int} {D T l : List Int} (hok : Ar.okB N D T = true) (hin : Ar.insB N l = true) (hl : l.length ≤ 100) : Ar.tourS N D T l = (Ar.sumX N D (Ar.tourX l), Ar.sumX N T (Ar.tourX l), 0) := by
  unfold Ar.tourS; rw [if_pos (Ar.told_ok hok hin), if_neg (by omega)]
theorem tourS_name {N : Int} {D T l : List Int} (hok : Ar.okB N D T = true) (hin : Ar.insB N l = false) : Ar.tourS N D T l = (0, 0, 5) := by
  unfold Ar.tourS; rw [if_neg (by rw [Ar.told_name hok hin]; decide), Ar.told_name hok hin]
theorem tourS_arg {N : Int} {D T l : List Int} (hok : Ar.okB N D T = false) : Ar.tourS N D T l = (0, 0, 1) := by
  unfold Ar.tourS; rw [if_neg (by rw [Ar.told_arg hok]; decide), Ar.told_arg hok]

theorem fits (N : Int) (D T l m : List Int) (h : l.length + m.length ≤ 90) : Fits (Ar.tourS N D T l).1 (Ar.tourS N D T l).2.1 (Ar.tourS N D T l).2.2 (Ar.tourS N D T m).1 (Ar.tourS N D T m).2.1 (Ar.tourS N D T m).2.2
    (Ar.tourS N D T (l ++ [0] ++ m)).1 (Ar.tourS N D T (l ++ [0] ++ m)).2.1 (Ar.tourS N D T (l ++ [0] ++ m)).2.2 (Ar.tourS N D T []).1 (Ar.tourS N D T []).2.1 (Ar.tourS N D T []).2.2 := by
  cases hok : Ar.okB N D T with
  | false =>
    rw [tourS_arg hok, tourS_arg hok, tourS_arg hok, tourS_arg hok]
    exact .inl ⟨by simp, rfl⟩
  | true =>
    have ho := Ar.ok_of hok
    cases hl : Ar.insB N l with
    | false =>
      rw [tourS_name hok hl, tourS_name (l := l ++ [0] ++ m) hok (by rw [Ar.ins_app, Ar.ins_app, hl]; rfl)]
      exact .inl ⟨by simp, rfl⟩
    | true =>
      cases hm : Ar.insB N m with
      | false =>
        rw [tourS_ok hok hl (by omega), tourS_name hok hm, tourS_name (l := l ++ [0] ++ m) hok (by rw [Ar.ins_app, hm]; simp)]
        exact .inr (.inl ⟨rfl, by simp, rfl⟩)
      | true =>
        rw [tourS_ok hok hl (by omega), tourS_ok hok hm (by omega), tourS_ok (l := l ++ [0] ++ m) hok (by rw [Ar.ins_app, Ar.ins_app, hl, hm, Ar.ins_cons, ho.has0]; rfl) (by simp; omega), tourS_ok (l := []) hok rfl (by simp)]
        have b1 := Ar.sumX_bd ho (Ar.tourX l) (Ar.insX_tour ho.has0 hl)
        have b2 := Ar.sumX_bd ho (Ar.tourX m) (Ar.insX_tour ho.has0 hm)
        rw [Ar.tourX_len] at b1 b2
        have e : l ++ [0] ++ m = l ++ 0 :: m := by simp
        right; right
        refine ⟨rfl, rfl, rfl, ?_, ?_, rfl, ?_, ?_, ?_, ?_, ?_, ?_⟩
        · show Ar.sumX N D (Ar.tourX []) = 0
          rw [Ar.tourX_nil]
          simp [Ar.sumX, ho.d00]
        · show Ar.sumX N T (Ar.tourX []) = 0
          rw [Ar.tourX_nil]
          simp [Ar.sumX, ho.t00]
        · show Ar.sumX N D (Ar.tourX (l ++ [0] ++ m)) = _
          rw [e, Ar.tourX_parts, Ar.sumX_app]
        · show Ar.sumX N T (Ar.tourX (l ++ [0] ++ m)) = _
          rw [e, Ar.tourX_parts, Ar.sumX_app]
        · show 0 ≤ Ar.sumX N D (Ar.tourX l) ∧ Ar.sumX N D (Ar.tourX l) ≤ 1000000000
          omega
        · show 0 ≤ Ar.sumX N T (Ar.tourX l) ∧ Ar.sumX N T (Ar.tourX l) ≤ 1000000000
          omega
        · show 0 ≤ Ar.sumX N D (Ar.tourX m) ∧ Ar.sumX N D (Ar.tourX m) ≤ 1000000000
          omega
        · show 0 ≤ Ar.sumX N T (Ar.tourX m) ∧ Ar.sumX N T (Ar.tourX m) ≤ 1000000000
          omega

theorem own_ints {W : World} {base : Nat} {A : Option Addr} {m c : Nat} {l : List Int} (h : OwnI W base (.slice A m c) l) : IntsAt W A l := by
  obtain ⟨A', c', e, _, _, h2⟩ := h.ints
  injection e with e1
  subst e1
  exact h2
theorem trip {x : Int × Int × Int} : x = (x.1, x.2.1, x.2.2) := rfl

set_option maxHeartbeats 4000000 in
set_option maxRecDepth 100000 in
theorem short_any (N : Int) (dA : Option Addr) (dm dc : Nat) (D : List Int) (tA : Option Addr) (tm tc : Nat) (T : List Int) (A : Option Addr) (m c : Nat) (l : List Int) (B : Option Addr) (k d : Nat) (l2 : List Int) (w : World) (h : AreaAt w dA dm D tA tm T) (hm : l.length = m) (hk : l2.length = k) (hmk : m + k ≤ 90) (hl : IntsAt w A l) (hl2 : IntsAt w B l2) :
    Calls Try.prog 4 #[.agg #[.int .i64 N, .slice dA dm dc, .slice tA tm tc], .slice A m c, .slice B k d] w fun e w' => e = .returned (.bool true) ∧ Below w.heap.size w w' := by
  have d1 : decide ((90 : Int) < (m : Int) + (k : Int)) = false := decide_eq_false (by omega)
  have d2 : decide ((400 : Int) < (dm : Int)) = false := decide_eq_false (by have := h.d400; omega)
  have d3 : decide ((400 : Int) < (tm : Int)) = false := decide_eq_false (by have := h.t400; omega)
  have HB0 : Hid (Below w.heap.size w (w.alloc (.cells #[.int .i64 N, .slice dA dm dc, .slice tA tm tc] 24))) := below_alloc _ _
  have HX := Lib.hid (Boxed.new (N := N) (dc := dc) (tc := tc) h)
  have HL : Hid (IntsAt (w.alloc (.cells #[.int .i64 N, .slice dA dm dc, .slice tA tm tc] 24)) A l) := hl.below HB0.out
  have HL2 : Hid (IntsAt (w.alloc (.cells #[.int .i64 N, .slice dA dm dc, .slice tA tm tc] 24)) B l2) := hl2.below HB0.out
  have HM := Lib.hid hm
  have HK := Lib.hid hk
  have HF := Lib.hid (fits N D T l l2 (by omega))
  have HTL : Hid (Ar.tourS N D T l = _) := trip
  have HTM : Hid (Ar.tourS N D T l2 = _) := trip
  have HTA : Hid (Ar.tourS N D T (l ++ [0] ++ l2) = _) := trip
  have HTN : Hid (Ar.tourS N D T [] = _) := trip
  generalize (Ar.tourS N D T l).1 = r1 at *
  generalize (Ar.tourS N D T l).2.1 = r2 at *
  generalize (Ar.tourS N D T l).2.2 = r3 at *
  generalize (Ar.tourS N D T l2).1 = s1 at *
  generalize (Ar.tourS N D T l2).2.1 = s2 at *
  generalize (Ar.tourS N D T l2).2.2 = s3 at *
  generalize (Ar.tourS N D T (l ++ [0] ++ l2)).1 = q1 at *
  generalize (Ar.tourS N D T (l ++ [0] ++ l2)).2.1 = q2 at *
  generalize (Ar.tourS N D T (l ++ [0] ++ l2)).2.2 = q3 at *
  generalize (Ar.tourS N D T []).1 = n1 at *
  generalize (Ar.tourS N D T []).2.1 = n2 at *
  generalize (Ar.tourS N D T []).2.2 = n3 at *
  clear h hl hl2 hm hk
  go_enter Try.func4, Try.ntmps4
  go_wp2_with fail
  generalize w.alloc (.cells #[.int .i64 N, .slice dA dm dc, .slice tA tm tc] 24) = W at *
  with_reducible refine (awake_any W).mono ?_
  rintro e w1 ⟨rfl, hb1⟩
  have HX1 := Lib.hid (HX.out.below hb1)
  have HL1 := Lib.hid (HL.out.below hb1)
  have HM1 := Lib.hid (HL2.out.below hb1)
  have HB1 := Lib.hid (below_next HB0.out hb1)
  clear hb1 HX HL HL2 HB0
  have x0 := HX1.out.c0
  have x1 := HX1.out.c1
  have x2 := HX1.out.c2
  go_wp2_with fail
  with_reducible refine (tour_b (w := w1) A m c l r1 r2 r3 HX1.out.rows HM.out (by omega) HL1.out (Below.refl _ _) HTL.out).mono ?_
  rintro en w2 ⟨rfl, hb2⟩
  have HB2 := Lib.hid (below_next HB1.out hb2.out)
  have HX2 := Lib.hid (HX1.out.below hb2.out)
  have HL2 := Lib.hid (HL1.out.below hb2.out)
  have HM2 := Lib.hid (HM1.out.below hb2.out)
  clear hb2 HX1 HL1 HM1 HB1 x0 x1 x2 HTL
  have x0 := HX2.out.c0
  have x1 := HX2.out.c1
  have x2 := HX2.out.c2
  go_wp2_with fail
  with_reducible refine (tour_b (w := w2) B k d l2 s1 s2 s3 HX2.out.rows HK.out (by omega) HM2.out (Below.refl _ _) HTM.out).mono ?_
  rintro en w3 ⟨rfl, hb3⟩
  have HB3 := Lib.hid (below_next HB2.out hb3.out)
  have HX3 := Lib.hid (HX2.out.below hb3.out)
  have HL3 := Lib.hid (HL2.out.below hb3.out)
  have HM3 := Lib.hid (HM2.out.below hb3.out)
  clear hb3 HX2 HL2 HM2 HB2 x0 x1 x2 HTM
  have HC0 : Hid (∀ w6, Below w3.heap.size w3 w6 → w6.cell? ⟨w.heap.size, 0, none⟩ = some (.int .i64 N)) := fun w6 hb => (HX3.out.below hb).c0
  have HC1 : Hid (∀ w6, Below w3.heap.size w3 w6 → w6.cell? ⟨w.heap.size, 1, none⟩ = some (.slice dA dm dc)) := fun w6 hb => (HX3.out.below hb).c1
  have HC2 : Hid (∀ w6, Below w3.heap.size w3 w6 → w6.cell? ⟨w.heap.size, 2, none⟩ = some (.slice tA tm tc)) := fun w6 hb => (HX3.out.below hb).c2
  have HA1 : Hid (∃ v' w', (Builtin.append_ #[25, 25] 25 #[.slice (some ⟨w3.heap.size, 0, none⟩) 0 0, .slice A m c]).run Try.prog (w3.alloc (.cells #[] 3)) = .ok v' w' ∧ ByI w3 w3.heap.size l m v' w') := by
    obtain ⟨v', w', h1, A', c', e, h2⟩ := owni_app (own_none w3 w3.heap.size (Nat.le_refl _)) (by simp) A m c l HM.out (HL3.out.alloc _) (by simp; omega)
    rw [List.length_nil, Nat.zero_add] at e
    rw [List.nil_append] at h2
    exact ⟨v', w', h1, A', c', e, h2.out.1, ((Below.refl _ w3).alloc (Nat.le_refl _) _).trans h2.out.2⟩
  have HA2 : Hid (∀ w4 A4 c4, OwnI w4 w3.heap.size (.slice A4 m c4) l ∧ Below w3.heap.size w3 w4 → ∃ v' w', (Builtin.append_ #[25, 25] 25 #[.slice A4 m c4, .slice (some ⟨w4.heap.size, 0, none⟩) 1 1]).run Try.prog (w4.alloc (.cells #[.int .i64 0] 3)) = .ok v' w' ∧ ByI w3 w3.heap.size (l ++ [0]) (m + 1) v' w') := fun w4 A4 c4 hp => by
    obtain ⟨v', w', h1, A', c', e, h2⟩ := owni_app (hp.1.below (below_alloc _ _)) (by have := hp.2.size; simp; omega) (some ⟨w4.heap.size, 0, none⟩) 1 1 [0] rfl (ints1 w4 0 3) (by rw [HM.out]; omega)
    rw [HM.out] at e
    exact ⟨v', w', h1, A', c', e, h2.out.1, (hp.2.alloc hp.2.size _).trans h2.out.2⟩
  have HA3 : Hid (∀ w5 A5 c5, OwnI w5 w3.heap.size (.slice A5 (m + 1) c5) (l ++ [0]) ∧ Below w3.heap.size w3 w5 → ∃ v' w', (Builtin.append_ #[25, 25] 25 #[.slice A5 (m + 1) c5, .slice B k d]).run Try.prog w5 = .ok v' w' ∧ ByI w3 w3.heap.size (l ++ [0] ++ l2) (m + 1 + k) v' w') := fun w5 A5 c5 hp => by
    obtain ⟨v', w', h1, A', c', e, h2⟩ := owni_app hp.1 hp.2.size B k d l2 HK.out (HM3.out.below hp.2) (by rw [List.length_append, HM.out]; simp; omega)
    rw [List.length_append, HM.out] at e
    exact ⟨v', w', h1, A', c', e, h2.out.1, hp.2.trans h2.out.2⟩
  go_wp2_with (first
    | (at_builtin; refine wpList_append_any rfl (.tmp 58) (.tmp 59) 25 25 rfl _ _ rfl rfl _ (HA3.out _ _ _ HP5.out) ?_; intro v6 w6 hap; obtain ⟨A6, c6, rfl, HP6⟩ := hap; have x0 := HC0.out w6 HP6.out.2; have x1 := HC1.out w6 HP6.out.2; have x2 := HC2.out w6 HP6.out.2)
    | (at_builtin; refine wpList_append_any rfl (.tmp 56) (.tmp 57) 25 25 rfl _ _ rfl rfl _ (HA2.out _ _ _ HP4.out) ?_; intro v5 w5 hap; obtain ⟨A5, c5, rfl, HP5⟩ := hap)
    | (at_builtin; refine wpList_append_any rfl (.tmp 54) (.tmp 55) 25 25 rfl _ _ rfl rfl _ HA1.out ?_; intro v4 w4 hap; obtain ⟨A4, c4, rfl, HP4⟩ := hap))
  have HLEN : Hid ((l ++ [0] ++ l2).length = m + 1 + k) := by unfold Hid; rw [List.length_append, List.length_append, HM.out, HK.out]; rfl
  have HB6 := Lib.hid (HB3.out.trans (HP6.out.2.mono HB3.out.size))
  with_reducible refine (tour_b (w := w3) A6 (m + 1 + k) c6 (l ++ [0] ++ l2) q1 q2 q3 HX3.out.rows HLEN.out (by omega) (own_ints HP6.out.1) HP6.out.2 HTA.out).mono ?_
  rintro en w7 ⟨rfl, hb7⟩
  have HB7 := Lib.hid (below_next HB6.out hb7.out)
  have HB37 := Lib.hid (below_next HP6.out.2 hb7.out)
  clear hb7 x0 x1 x2 HP4 HP5 HP6 HA1 HA2 HA3 HTA HB6
  have x0 := HC0.out w7 HB37.out
  have x1 := HC1.out w7 HB37.out
  have x2 := HC2.out w7 HB37.out
  go_wp2_with fail
  with_reducible refine (tour_b (w := w3) none 0 0 [] n1 n2 n3 HX3.out.rows rfl (by omega) (IntsAt.nil _ _) HB37.out HTN.out).mono ?_
  rintro en w8 ⟨rfl, hb8⟩
  have HB8 := Lib.hid (below_next HB7.out hb8.out)
  clear hb8 x0 x1 x2 HB37 HB7 HC0 HC1 HC2
  rcases HF.out with ⟨h1, h2⟩ | ⟨h1, h2, h3⟩ | ⟨h1, h2, h3, h4, h5, h6, h7, h8, ⟨g1, g2⟩, ⟨g3, g4⟩, ⟨g5, g6⟩, ⟨g7, g8⟩⟩
  · subst h2
    have d4 : (q3 != 0) = true := bne_iff_ne.2 h1
    clear h1 HF
    go_wp2
    go_ret
    exact ⟨rfl, HB8.out⟩
  · subst h1
    subst h3
    have d4 : (q3 != 0) = true := bne_iff_ne.2 h2
    have d5 : (q3 == 0) = false := beq_eq_false_iff_ne.2 h2
    clear h2 HF
    go_wp2
    go_ret
    exact ⟨rfl, HB8.out⟩
  · subst h1
    subst h2
    subst h3
    subst h4
    subst h5
    subst h6
    subst h7
    subst h8
    clear HF
    go_wp2
    go_ret
    exact ⟨rfl, HB8.out⟩

theorem walk (N : Int) (dA : Option Addr) (dm dc : Nat) (D : List Int) (tA : Option Addr) (tm tc : Nat) (T : List Int) {W : World} (hv : AreaCame W (.agg #[.int .i64 N, .slice dA dm dc, .slice tA tm tc]) N dA dm dc D tA tm tc T) (A : Option Addr) (m c : Nat) (l : List Int) (hl : l.length = m) (hmc : m ≤ c) (hcm : c ≤ 140737488355328) (hi : IntsAt W A l)
    (B : Option Addr) (k d : Nat) (l2 : List Int) (hl2 : l2.length = k) (hkd : k ≤ d) (hdm : d ≤ 140737488355328) (hi2 : IntsAt W B l2) :
    Calls Try.prog 4 #[.agg #[.int .i64 N, .slice dA dm dc, .slice tA tm tc], .slice A m c, .slice B k d] W fun e w' => e = .returned (.bool true) ∧ Below W.heap.size W w' := by
  by_cases h : 90 < m + k ∨ 400 < dm ∨ 400 < tm
  · exact long_any N dA dm dc tA tm tc A m c B k d W hv.dmx hv.tmx (by omega) (by omega) h
  · exact short_any N dA dm dc D tA tm tc T A m c l B k d l2 W (hv.at_ (by omega) (by omega)) hl hl2 (by omega) hi hi2

set_option maxRecDepth 100000 in
theorem lifted (os : Os) (started : os.Started) (H : Type) (enc : TypeId × Value → H) :
    ReturnsInHanded {} Try.checked os 4 .any (Rows.areaPartsSpec.pre6 enc Try.prog Try.f4 Rows.areaPartsRow.domain false) (Rows.areaPartsSpec.post enc Try.prog Try.f4 false true false false) := by
  refine returnsInHanded_of_change_sized (C := Try.checked) own started (by kernel_rfl) Try.func4
    (ChangeSpec.witness6 (enc := enc) (C := Try.checked) false ⟨#[], #[.agg #[.int .i64 0, .slice none 0 0, .slice none 0 0], .slice none 0 0, .slice none 0 0], []⟩ 8 (by kernel_rfl) (by kernel_rfl) (by kernel_rfl) (by kernel_rfl)) ?_
  intro W base args ds gs before hval0 hW _ hsz0 _
  have hsz : (DataW.weightsEach Try.prog (Try.f4.params.toList ++ Rows.areaPartsSpec.plain.varTypes Try.prog) (ds ++ gs)).all (· ≤ reachBytes) = true := hsz0
  have hval : ∀ (j : Nat) t v, Try.f4.params[j]? = some t → args[j]? = some v → Value.okWide Try.prog W .any base t v := hval0
  have hW' := hW
  obtain ⟨p, q, hA0, hV, rfl, hfz, hnd⟩ := hW
  have hA : DataW.TrodAll enc Try.prog W 0 (fun _ => true) true Try.f4.params.toList args.toList ds p := hA0
  rw [Try.params4] at hA hval hsz
  obtain ⟨v0, vs0, d0, ds0, p0, q0, hargs, rfl, rfl, h0, r0⟩ := trodAll_cons hA
  obtain ⟨v1, vs1, d1, ds1, p1, q1, rfl, rfl, rfl, h1, r1⟩ := trodAll_cons r0
  obtain ⟨v2, vs2, d2, ds2, p2, q2, rfl, rfl, rfl, h2, r2⟩ := trodAll_cons r1
  obtain ⟨rfl, rfl, rfl⟩ := trodAll_nil r2
  obtain rfl : args = #[v0, v1, v2] := by cases args; simp_all
  obtain ⟨rfl, rfl⟩ := trodVars_none hV
  have k0 := h0
  have lt0 : ∀ x ∈ p0, x.block < W.heap.size := by obtain ⟨m, hm⟩ := k0; exact DataW.trod_lt m _ _ _ hm
  obtain ⟨N0, dA0, dm0, dc0, D0, tA0, tm0, tc0, T0, hv0⟩ := open_area (hval 0 24 v0 rfl rfl) h0
  obtain rfl := hv0.val
  have k1 := h1
  have lt1 : ∀ x ∈ p1, x.block < W.heap.size := by obtain ⟨m, hm⟩ := k1; exact DataW.trod_lt m _ _ _ hm
  obtain ⟨a1, len1, cap1, l1, rfl, hl1, hlc1, hw1, hv1⟩ := open_nodes_w (hval 1 25 v1 rfl rfl) h1
  have hs1 : cap1 ≤ 140737488355328 := by
    rcases hw1 with h0 | hin
    · omega
    · have := List.all_eq_true.1 hsz _ (DataW.weights_mem_each (j := 1) (t := 25) (d := d1) rfl rfl _ hin)
      have h2 : cap1 * 8 ≤ reachBytes := by simpa using this
      have h3 := reachBytes_lt
      omega
  have k2 := h2
  have lt2 : ∀ x ∈ p2, x.block < W.heap.size := by obtain ⟨m, hm⟩ := k2; exact DataW.trod_lt m _ _ _ hm
  obtain ⟨a2, len2, cap2, l2, rfl, hl2, hlc2, hw2, hv2⟩ := open_nodes_w (hval 2 25 v2 rfl rfl) h2
  have hs2 : cap2 ≤ 140737488355328 := by
    rcases hw2 with h0 | hin
    · omega
    · have := List.all_eq_true.1 hsz _ (DataW.weights_mem_each (j := 2) (t := 25) (d := d2) rfl rfl _ hin)
      have h2 : cap2 * 8 ≤ reachBytes := by simpa using this
      have h3 := reachBytes_lt
      omega
  clear hA0 hval0
  refine (walk N0 dA0 dm0 dc0 D0 tA0 tm0 tc0 T0 hv0 a1 len1 cap1 l1 hl1 hlc1 hs1 hv1 a2 len2 cap2 l2 hl2 hlc2 hs2 hv2).mono fun e W' ⟨he, bel⟩ => ?_
  subst he
  exact ⟨_, rfl, _, _, _, [], _, [], hW', trodAll_mk1 (shut_bool Try.underlying4 _), (trodAll_cons_mk (Below.trod laidOut (by kernel_rfl) (of_decide_eq_true (by kernel_rfl)) k0 bel lt0) (trodAll_cons_mk (Below.trod laidOut (by kernel_rfl) (of_decide_eq_true (by kernel_rfl)) k1 bel lt1) (trodAll_cons_mk (Below.trod laidOut (by kernel_rfl) (of_decide_eq_true (by kernel_rfl)) k2 bel lt2) trodAll_mk0))), rfl, bel.frame _, fun h => by cases h⟩

theorem over : Rows.areaPartsRow.holds Try.pinned (OpenSpec.ofChange Rows.areaPartsSpec) :=
  OpenClaim.holds_of_wide 4 Try.f4 rfl rfl rfl rfl rfl rfl rfl ⟨rfl, rfl, rfl, rfl, rfl⟩ rfl rfl rfl rfl rfl (by kernel_rfl) Try.func4 (by kernel_rfl)
    (of_decide_eq_true (by kernel_rfl)) (by unfold Func.isWrapper; first | (rw [if_pos (by decide +kernel)]; kernel_rfl) | (rw [if_neg (by decide +kernel)]; exact ⟨rfl, rfl⟩))
    (fun os started H enc _ => lifted os started H enc)

theorem proved : Rows.AreaPartsSaid := over
end Go.Proofs.Ytllffjgjmeibnaa.areaParts
