/- Contract of the document's World. -/
import Derived.Test.YtbacakblboodeaaLoadR1
namespace Ld
theorem tw_snoc {ids : List Int} {i : Nat} {x : Int} (h : ids[i]? = some x) : twB (ids.take (i + 1)) = (twB (ids.take i) || (ids.take i).any (fun y => y == x)) := by
  have e : ids.take (i + 1) = ids.take i ++ [x] := by rw [List.take_add_one, h]; rfl
  rw [e]
  unfold twB
  rw [Bool.eq_iff_iff]
  simp only [Bool.not_eq_true', decide_eq_false_iff_not, Bool.or_eq_true, List.any_eq_true, beq_iff_eq]
  unfold List.Nodup
  rw [List.pairwise_append]
  constructor
  · intro hn
    by_cases h1 : (ids.take i).Pairwise (· ≠ ·)
    · refine .inr ?_
      by_cases h2 : ∃ y, y ∈ ids.take i ∧ y = x
      · exact h2
      · exact absurd ⟨h1, by simp, fun a ha b hb e => h2 ⟨a, ha, by rw [e]; simpa using hb⟩⟩ hn
    · exact .inl h1
  · rintro (h1 | ⟨y, hy, rfl⟩) ⟨a, _, b⟩
    · exact h1 a
    · exact b y hy y (by simp) rfl
theorem any_snoc {ids : List Int} {k : Nat} {y x : Int} (h : ids[k]? = some y) : (ids.take (k + 1)).any (fun z => z == x) = ((ids.take k).any (fun z => z == x) || (y == x)) := by
  rw [List.take_add_one, h, List.any_append]
  simp
theorem or_go {t u p : Bool} {a : Bool} (h : a = (t || u)) : (a || p) = (t || (u || p)) := by rw [h]; cases t <;> cases u <;> rfl
end Ld
namespace Go.Proofs.Ytbacakblboodeaa
open Go.RowKit
set_option linter.unusedVariables false

theorem below_drewN {b : Nat} {w W : World} (h : Below b w W) (n : Nat) : Below b w (W.drewN n) := h.trans ⟨rfl, rfl, rfl, Nat.le_refl _, fun _ _ => rfl⟩

set_option maxHeartbeats 4000000 in
set_option maxRecDepth 100000 in
theorem rworld_val (N : Int) (v1 v2 : Value) (A : Option Addr) (m c : Nat) (os : List Ld.O) (B : Option Addr) (n d : Nat) (ts : List Ld.T) (w : World) (r : Int) (hr : Ld.worldE N os ts = r) (hm : os.length = m) (hm2 : m ≤ 1000) (hk : ts.length = n) (hk2 : n ≤ 1000) (hos : OrdersAt w A os) (hts : TrucksAt w B ts) :
    Calls Try.prog 54 #[.agg #[.int .i64 N, v1, v2, .slice A m c, .slice B n d]] w fun e w' => e = .returned (.int .i64 r) ∧ Hid (Below w.heap.size w w') := by
  have HB0 : Hid (Below w.heap.size w (w.alloc (.cells #[.int .i64 N, v1, v2, .slice A m c, .slice B n d] 28))) := below_alloc _ _
  have HX := Lib.hid (WBox.new (N := N) (v1 := v1) (v2 := v2) (m := m) (c := c) (k := n) (d := d) hos hts)
  have HM := Lib.hid hm
  have HK := Lib.hid hk
  have HR := Lib.hid hr
  clear hos hts hm hk hr
  by_cases h1 : 12 < m
  · have HR2 := Lib.hid (Ld.world_full (N := N) (os := os) (ts := ts) (.inl (by rw [HM.out]; exact h1)))
    have d1 : decide ((12 : Int) < (m : Int)) = true := decide_eq_true (by omega)
    clear h1
    go_enter Try.func54, Try.ntmps54
    go_wp2
    go_ret
    exact ⟨by rw [← HR.out, HR2.out]; rfl, HB0.out⟩
  have d1 : decide ((12 : Int) < (m : Int)) = false := decide_eq_false (by omega)
  by_cases h2 : 6 < n
  · have HR2 := Lib.hid (Ld.world_full (N := N) (os := os) (ts := ts) (.inr (by rw [HK.out]; exact h2)))
    have d2 : decide ((6 : Int) < (n : Int)) = true := decide_eq_true (by omega)
    clear h1 h2
    go_enter Try.func54, Try.ntmps54
    go_wp2
    go_ret
    exact ⟨by rw [← HR.out, HR2.out]; rfl, HB0.out⟩
  have d2 : decide ((6 : Int) < (n : Int)) = false := decide_eq_false (by omega)
  have l1 : Hid (os.length ≤ 12) := by unfold Hid; rw [HM.out]; omega
  have l2 : Hid (ts.length ≤ 6) := by unfold Hid; rw [HK.out]; omega
  have hm12 : m ≤ 12 := by omega
  have hn6 : n ≤ 6 := by omega
  clear h1 h2 hm2 hk2
  go_enter Try.func54, Try.ntmps54
  go_wp2_with fail
  generalize w.alloc (.cells #[.int .i64 N, v1, v2, .slice A m c, .slice B n d] 28) = w1 at *
  clear d1 d2
  go_loopg [3, 4] m (fun gk s3 s4 Wx => ∃ (W : World) (i : Nat) (t : Bool), W = Wx ∧ i + gk = m ∧ s3 = .bool t ∧ s4 = .int .i64 i ∧ Hid (Below w1.heap.size w1 W) ∧ Hid ((os.take i).all (fun o => Ld.oB o N) = true) ∧ Hid (t = Ld.twB ((os.map Ld.O.id).take i)))
  case atStart => exact ⟨_, 0, false, rfl, by omega, rfl, rfl, Below.refl _ _, rfl, rfl⟩
  case round =>
    obtain ⟨W, i, t, rfl, hig, rfl, rfl, HB, HALL, HT⟩ := hrel
    have HXW := Lib.hid (HX.out.below HB.out)
    by_cases hlt : i < m
    · obtain ⟨go, rfl⟩ : ∃ j, gk = j + 1 := ⟨gk - 1, by omega⟩
      obtain ⟨s, hs⟩ := mlist_at os i (by rw [HM.out]; exact hlt)
      obtain ⟨ad, rfl, hc⟩ := HXW.out.os.at_ hs
      have HATI : Hid (∀ U : World, Below w1.heap.size w1 U → OAt U (ad.add (i * 8)) s) := fun U hb => by
        obtain ⟨ad', e, hc'⟩ := (HX.out.below hb).os.at_ hs
        obtain rfl := Option.some.inj e
        exact hc'
      obtain ⟨c0, c1, c2, c3, c4, c5, c6, c7⟩ := hc
      obtain ⟨a0, a1, a2, a3, a4, a5, a6, a7⟩ := s
      simp only at c0 c1 c2 c3 c4 c5 c6 c7
      have hidI : (os.map Ld.O.id)[i]? = some a0 := by rw [List.getElem?_map, hs]; rfl
      have HSN := Lib.hid (Ld.tw_snoc hidI)
      clear hidI
      have x0 := HXW.out.c0
      have x3 := HXW.out.c3
      have i0 : (0 : Int) ≤ (i : Int) := by omega
      have i1 : (i : Int) < (m : Int) := by omega
      have hB := HB.out.drew
      have HCE : Hid (∀ U, Below w1.heap.size w1 U → U.cell? ⟨w.heap.size, 0, none⟩ = some (.int .i64 N) ∧ U.cell? ⟨w.heap.size, 3, none⟩ = some (.slice (some ad) m c) ∧ U.cell? (ad.add (i * 8)) = some (.int .i64 a0) ∧ U.cell? ⟨(ad.add (i * 8)).block, (ad.add (i * 8)).off + 1, none⟩ = some (.int .i64 a1) ∧ U.cell? ⟨(ad.add (i * 8)).block, (ad.add (i * 8)).off + 2, none⟩ = some (.int .i64 a2) ∧ U.cell? ⟨(ad.add (i * 8)).block, (ad.add (i * 8)).off + 3, none⟩ = some (.int .i64 a3) ∧ U.cell? ⟨(ad.add (i * 8)).block, (ad.add (i * 8)).off + 4, none⟩ = some (.int .i64 a4) ∧ U.cell? ⟨(ad.add (i * 8)).block, (ad.add (i * 8)).off + 5, none⟩ = some (.int .i64 a5) ∧ U.cell? ⟨(ad.add (i * 8)).block, (ad.add (i * 8)).off + 6, none⟩ = some (.int .i64 a6) ∧ U.cell? ⟨(ad.add (i * 8)).block, (ad.add (i * 8)).off + 7, none⟩ = some (.int .i64 a7) ∧ Below w1.heap.size w1 U) := fun U hb => ⟨(HX.out.below hb).c0, (HX.out.below hb).c3, (HATI.out U hb).c0, (HATI.out U hb).c1, (HATI.out U hb).c2, (HATI.out U hb).c3, (HATI.out U hb).c4, (HATI.out U hb).c5, (HATI.out U hb).c6, (HATI.out U hb).c7, hb⟩
      cases g1 : Ld.oB ⟨a0, a1, a2, a3, a4, a5, a6, a7⟩ N with
      | false =>
          have HR2 := Lib.hid (Ld.world_arg (N := N) l1.out l2.out (.inl (Ld.all_stop (p := (fun o => Ld.oB o N)) hs g1)))
          have HC : Hid (∀ U, (U.cell? ⟨w.heap.size, 0, none⟩ = some (.int .i64 N) ∧ U.cell? ⟨w.heap.size, 3, none⟩ = some (.slice (some ad) m c) ∧ U.cell? (ad.add (i * 8)) = some (.int .i64 a0) ∧ U.cell? ⟨(ad.add (i * 8)).block, (ad.add (i * 8)).off + 1, none⟩ = some (.int .i64 a1) ∧ U.cell? ⟨(ad.add (i * 8)).block, (ad.add (i * 8)).off + 2, none⟩ = some (.int .i64 a2) ∧ U.cell? ⟨(ad.add (i * 8)).block, (ad.add (i * 8)).off + 3, none⟩ = some (.int .i64 a3) ∧ U.cell? ⟨(ad.add (i * 8)).block, (ad.add (i * 8)).off + 4, none⟩ = some (.int .i64 a4) ∧ U.cell? ⟨(ad.add (i * 8)).block, (ad.add (i * 8)).off + 5, none⟩ = some (.int .i64 a5) ∧ U.cell? ⟨(ad.add (i * 8)).block, (ad.add (i * 8)).off + 6, none⟩ = some (.int .i64 a6) ∧ U.cell? ⟨(ad.add (i * 8)).block, (ad.add (i * 8)).off + 7, none⟩ = some (.int .i64 a7) ∧ Below w1.heap.size w1 U) → Calls Try.prog 78 #[.agg #[.int .i64 a0, .int .i64 a1, .int .i64 a2, .int .i64 a3, .int .i64 a4, .int .i64 a5, .int .i64 a6, .int .i64 a7], .int .i64 N] U fun e U => e = .returned (.int .i64 1) ∧ U.cell? ⟨w.heap.size, 0, none⟩ = some (.int .i64 N) ∧ U.cell? ⟨w.heap.size, 3, none⟩ = some (.slice (some ad) m c) ∧ U.cell? (ad.add (i * 8)) = some (.int .i64 a0) ∧ U.cell? ⟨(ad.add (i * 8)).block, (ad.add (i * 8)).off + 1, none⟩ = some (.int .i64 a1) ∧ U.cell? ⟨(ad.add (i * 8)).block, (ad.add (i * 8)).off + 2, none⟩ = some (.int .i64 a2) ∧ U.cell? ⟨(ad.add (i * 8)).block, (ad.add (i * 8)).off + 3, none⟩ = some (.int .i64 a3) ∧ U.cell? ⟨(ad.add (i * 8)).block, (ad.add (i * 8)).off + 4, none⟩ = some (.int .i64 a4) ∧ U.cell? ⟨(ad.add (i * 8)).block, (ad.add (i * 8)).off + 5, none⟩ = some (.int .i64 a5) ∧ U.cell? ⟨(ad.add (i * 8)).block, (ad.add (i * 8)).off + 6, none⟩ = some (.int .i64 a6) ∧ U.cell? ⟨(ad.add (i * 8)).block, (ad.add (i * 8)).off + 7, none⟩ = some (.int .i64 a7) ∧ Below w1.heap.size w1 U) := by
            rintro U ⟨_, _, _, _, _, _, _, _, _, _, h⟩
            exact (rorder_any ⟨a0, a1, a2, a3, a4, a5, a6, a7⟩ N U 1 (Ld.oE_no g1)).mono fun _ _ ⟨e1, e2⟩ => ⟨e1, HCE.out _ (below_next h e2.out)⟩
          clear hs g1
          go_wp2
          go_region_held3 (fun U : World => U.cell? ⟨w.heap.size, 0, none⟩ = some (.int .i64 N) ∧ U.cell? ⟨w.heap.size, 3, none⟩ = some (.slice (some ad) m c) ∧ U.cell? (ad.add (i * 8)) = some (.int .i64 a0) ∧ U.cell? ⟨(ad.add (i * 8)).block, (ad.add (i * 8)).off + 1, none⟩ = some (.int .i64 a1) ∧ U.cell? ⟨(ad.add (i * 8)).block, (ad.add (i * 8)).off + 2, none⟩ = some (.int .i64 a2) ∧ U.cell? ⟨(ad.add (i * 8)).block, (ad.add (i * 8)).off + 3, none⟩ = some (.int .i64 a3) ∧ U.cell? ⟨(ad.add (i * 8)).block, (ad.add (i * 8)).off + 4, none⟩ = some (.int .i64 a4) ∧ U.cell? ⟨(ad.add (i * 8)).block, (ad.add (i * 8)).off + 5, none⟩ = some (.int .i64 a5) ∧ U.cell? ⟨(ad.add (i * 8)).block, (ad.add (i * 8)).off + 6, none⟩ = some (.int .i64 a6) ∧ U.cell? ⟨(ad.add (i * 8)).block, (ad.add (i * 8)).off + 7, none⟩ = some (.int .i64 a7) ∧ Below w1.heap.size w1 U) (first | exact ⟨x0, x3, c0, c1, c2, c3, c4, c5, c6, c7, hB⟩ | exact ⟨k0, k1, k2, k3, k4, k5, k6, k7, k8, k9, kb⟩ | assumption)
            (first | (go_at_call 78; ((with_reducible refine (HC.out _ (by assumption)).mono ?_)); rintro e w7 ⟨rfl, k0, k1, k2, k3, k4, k5, k6, k7, k8, k9, kb⟩))
          have KB := Lib.hid kb
          clear k0 k1 k2 k3 k4 k5 k6 k7 k8 k9 kb x0 x3 c0 c1 c2 c3 c4 c5 c6 c7 hB HC
          go_wp2
          go_ret
          exact ⟨by rw [← HR.out, HR2.out]; rfl, below_next HB0.out KB.out⟩
      | true =>
          have HALL2 := Lib.hid (Ld.all_snoc (p := (fun o => Ld.oB o N)) hs HALL.out g1)
          have HC : Hid (∀ U, (U.cell? ⟨w.heap.size, 0, none⟩ = some (.int .i64 N) ∧ U.cell? ⟨w.heap.size, 3, none⟩ = some (.slice (some ad) m c) ∧ U.cell? (ad.add (i * 8)) = some (.int .i64 a0) ∧ U.cell? ⟨(ad.add (i * 8)).block, (ad.add (i * 8)).off + 1, none⟩ = some (.int .i64 a1) ∧ U.cell? ⟨(ad.add (i * 8)).block, (ad.add (i * 8)).off + 2, none⟩ = some (.int .i64 a2) ∧ U.cell? ⟨(ad.add (i * 8)).block, (ad.add (i * 8)).off + 3, none⟩ = some (.int .i64 a3) ∧ U.cell? ⟨(ad.add (i * 8)).block, (ad.add (i * 8)).off + 4, none⟩ = some (.int .i64 a4) ∧ U.cell? ⟨(ad.add (i * 8)).block, (ad.add (i * 8)).off + 5, none⟩ = some (.int .i64 a5) ∧ U.cell? ⟨(ad.add (i * 8)).block, (ad.add (i * 8)).off + 6, none⟩ = some (.int .i64 a6) ∧ U.cell? ⟨(ad.add (i * 8)).block, (ad.add (i * 8)).off + 7, none⟩ = some (.int .i64 a7) ∧ Below w1.heap.size w1 U) → Calls Try.prog 78 #[.agg #[.int .i64 a0, .int .i64 a1, .int .i64 a2, .int .i64 a3, .int .i64 a4, .int .i64 a5, .int .i64 a6, .int .i64 a7], .int .i64 N] U fun e U => e = .returned (.int .i64 0) ∧ U.cell? ⟨w.heap.size, 0, none⟩ = some (.int .i64 N) ∧ U.cell? ⟨w.heap.size, 3, none⟩ = some (.slice (some ad) m c) ∧ U.cell? (ad.add (i * 8)) = some (.int .i64 a0) ∧ U.cell? ⟨(ad.add (i * 8)).block, (ad.add (i * 8)).off + 1, none⟩ = some (.int .i64 a1) ∧ U.cell? ⟨(ad.add (i * 8)).block, (ad.add (i * 8)).off + 2, none⟩ = some (.int .i64 a2) ∧ U.cell? ⟨(ad.add (i * 8)).block, (ad.add (i * 8)).off + 3, none⟩ = some (.int .i64 a3) ∧ U.cell? ⟨(ad.add (i * 8)).block, (ad.add (i * 8)).off + 4, none⟩ = some (.int .i64 a4) ∧ U.cell? ⟨(ad.add (i * 8)).block, (ad.add (i * 8)).off + 5, none⟩ = some (.int .i64 a5) ∧ U.cell? ⟨(ad.add (i * 8)).block, (ad.add (i * 8)).off + 6, none⟩ = some (.int .i64 a6) ∧ U.cell? ⟨(ad.add (i * 8)).block, (ad.add (i * 8)).off + 7, none⟩ = some (.int .i64 a7) ∧ Below w1.heap.size w1 U) := by
            rintro U ⟨_, _, _, _, _, _, _, _, _, _, h⟩
            exact (rorder_any ⟨a0, a1, a2, a3, a4, a5, a6, a7⟩ N U 0 (Ld.oE_yes g1)).mono fun _ _ ⟨e1, e2⟩ => ⟨e1, HCE.out _ (below_next h e2.out)⟩
          clear hs g1
          go_wp2
          go_region_held3 (fun U : World => U.cell? ⟨w.heap.size, 0, none⟩ = some (.int .i64 N) ∧ U.cell? ⟨w.heap.size, 3, none⟩ = some (.slice (some ad) m c) ∧ U.cell? (ad.add (i * 8)) = some (.int .i64 a0) ∧ U.cell? ⟨(ad.add (i * 8)).block, (ad.add (i * 8)).off + 1, none⟩ = some (.int .i64 a1) ∧ U.cell? ⟨(ad.add (i * 8)).block, (ad.add (i * 8)).off + 2, none⟩ = some (.int .i64 a2) ∧ U.cell? ⟨(ad.add (i * 8)).block, (ad.add (i * 8)).off + 3, none⟩ = some (.int .i64 a3) ∧ U.cell? ⟨(ad.add (i * 8)).block, (ad.add (i * 8)).off + 4, none⟩ = some (.int .i64 a4) ∧ U.cell? ⟨(ad.add (i * 8)).block, (ad.add (i * 8)).off + 5, none⟩ = some (.int .i64 a5) ∧ U.cell? ⟨(ad.add (i * 8)).block, (ad.add (i * 8)).off + 6, none⟩ = some (.int .i64 a6) ∧ U.cell? ⟨(ad.add (i * 8)).block, (ad.add (i * 8)).off + 7, none⟩ = some (.int .i64 a7) ∧ Below w1.heap.size w1 U) (first | exact ⟨x0, x3, c0, c1, c2, c3, c4, c5, c6, c7, hB⟩ | exact ⟨k0, k1, k2, k3, k4, k5, k6, k7, k8, k9, kb⟩ | assumption)
            (first | (go_at_call 78; ((with_reducible refine (HC.out _ (by assumption)).mono ?_)); rintro e w7 ⟨rfl, k0, k1, k2, k3, k4, k5, k6, k7, k8, k9, kb⟩))
          have KB := Lib.hid kb
          clear k0 k1 k2 k3 k4 k5 k6 k7 k8 k9 kb x0 x3 c0 c1 c2 c3 c4 c5 c6 c7 hB HC
          clear HXW HCE
          go_wp2
          go_loopg [3, 5] i (fun gk s3 s5 Wx => ∃ (V : World) (k : Nat) (u : Bool), V = Wx ∧ k + gk = i ∧ s3 = .bool u ∧ s5 = .int .i64 k ∧ Hid (Below w1.heap.size w1 V) ∧ Hid (u = (t || ((os.map Ld.O.id).take k).any (fun z => z == a0))))
          case atStart => exact ⟨_, 0, t, rfl, by omega, rfl, rfl, KB.out, by unfold Hid; cases t <;> rfl⟩
          case round =>
            obtain ⟨V, k, u, rfl, hkg, rfl, rfl, HBV, HU⟩ := hrel
            by_cases hki : k < i
            · obtain ⟨gi, rfl⟩ : ∃ j, gk = j + 1 := ⟨gk - 1, by omega⟩
              obtain ⟨s, hs⟩ := mlist_at os k (by rw [HM.out]; omega)
              obtain ⟨ad', e, hc⟩ := (HX.out.below HBV.out).os.at_ hs
              obtain rfl := Option.some.inj e
              obtain ⟨y0, _⟩ := s
              have hc0 := hc.c0
              simp only at hc0
              have hcI := (HATI.out V HBV.out).c0
              simp only at hcI
              have hidK : (os.map Ld.O.id)[k]? = some y0 := by rw [List.getElem?_map, hs]; rfl
              have HU2 : Hid ((u || (y0 == a0)) = (t || ((os.map Ld.O.id).take (k + 1)).any (fun z => z == a0))) := by
                unfold Hid
                rw [Ld.any_snoc hidK]
                exact Ld.or_go HU.out
              have x3 := (HX.out.below HBV.out).c3
              have q0 : (0 : Int) ≤ (k : Int) := by omega
              have q1 : (k : Int) < (m : Int) := by omega
              clear hs hc hidK
              cases u with
              | true =>
                clear hc0 hcI
                go_wp2
                go_quiet (fail)
                go_wp2
                go_roundg gi
                case measure => omega
                case rel => exact ⟨_, k + 1, true, rfl, by omega, rfl, by first | rfl | go_num, below_drewN HBV.out _, HU2.out⟩
              | false =>
                cases g2 : (y0 == a0) with
                | true =>
                  rw [g2] at HU2
                  go_wp2
                  go_quiet (fail)
                  go_wp2
                  go_roundg gi
                  case measure => omega
                  case rel => exact ⟨_, k + 1, true, rfl, by omega, rfl, by first | rfl | go_num, below_drewN HBV.out _, HU2.out⟩
                | false =>
                  rw [g2] at HU2
                  go_wp2
                  go_quiet (fail)
                  go_wp2
                  go_roundg gi
                  case measure => omega
                  case rel => exact ⟨_, k + 1, false, rfl, by omega, rfl, by first | rfl | go_num, below_drewN HBV.out _, HU2.out⟩
            · obtain rfl : k = i := by omega
              have HU3 : Hid (u = Ld.twB ((os.map Ld.O.id).take (k + 1))) := by unfold Hid; rw [HSN.out, ← HT.out]; exact HU.out
              clear hki
              go_wp2
              go_roundg go
              case measure => omega
              case rel => exact ⟨_, k + 1, u, rfl, by omega, rfl, by first | rfl | go_num, HBV.out, HALL2.out, HU3.out⟩
    · obtain rfl : i = m := by omega
      have HALLO := Lib.hid (Ld.all_full (by rw [HM.out]; exact Nat.le_refl _) HALL.out)
      have HTO : Hid (t = Ld.twB (os.map Ld.O.id)) := by
        unfold Hid
        rw [HT.out, List.take_of_length_le (by rw [List.length_map, HM.out]; exact Nat.le_refl _)]
      have x3 := HXW.out.c3
      have HBE := Lib.hid HB.out
      clear HALL HT hlt
      go_wp2_with fail
      clear x3 HXW
      generalize t = t0 at *
      go_loopg [3, 6] n (fun gk s3 s4 Wx => ∃ (W : World) (i : Nat) (t : Bool), W = Wx ∧ i + gk = n ∧ s3 = .bool t ∧ s4 = .int .i64 i ∧ Hid (Below w1.heap.size w1 W) ∧ Hid ((ts.take i).all Ld.tB = true) ∧ Hid (t = (t0 || Ld.twB ((ts.map Ld.T.id).take i))))
      case atStart => exact ⟨_, 0, t0, rfl, by omega, rfl, rfl, HBE.out, rfl, by unfold Hid; cases t0 <;> rfl⟩
      case round =>
        obtain ⟨W, i, t, rfl, hig, rfl, rfl, HB, HALL, HT⟩ := hrel
        have HXW := Lib.hid (HX.out.below HB.out)
        by_cases hlt : i < n
        · obtain ⟨go, rfl⟩ : ∃ j, gk = j + 1 := ⟨gk - 1, by omega⟩
          obtain ⟨s, hs⟩ := mlist_at ts i (by rw [HK.out]; exact hlt)
          obtain ⟨bd, rfl, hc⟩ := HXW.out.ts.at_ hs
          have HATI : Hid (∀ U : World, Below w1.heap.size w1 U → TAt U (bd.add (i * 7)) s) := fun U hb => by
            obtain ⟨ad', e, hc'⟩ := (HX.out.below hb).ts.at_ hs
            obtain rfl := Option.some.inj e
            exact hc'
          obtain ⟨c0, c1, c2, c3, c4, c5, c6⟩ := hc
          obtain ⟨a0, a1, a2, a3, a4, a5, a6⟩ := s
          simp only at c0 c1 c2 c3 c4 c5 c6
          have hidI : (ts.map Ld.T.id)[i]? = some a0 := by rw [List.getElem?_map, hs]; rfl
          have HSN := Lib.hid (Ld.tw_snoc hidI)
          clear hidI
          have x3 := HXW.out.c4
          have i0 : (0 : Int) ≤ (i : Int) := by omega
          have i1 : (i : Int) < (n : Int) := by omega
          have hB := HB.out.drew
          have HCE : Hid (∀ U, Below w1.heap.size w1 U → U.cell? ⟨w.heap.size, 4, none⟩ = some (.slice (some bd) n d) ∧ U.cell? (bd.add (i * 7)) = some (.int .i64 a0) ∧ U.cell? ⟨(bd.add (i * 7)).block, (bd.add (i * 7)).off + 1, none⟩ = some (.int .i64 a1) ∧ U.cell? ⟨(bd.add (i * 7)).block, (bd.add (i * 7)).off + 2, none⟩ = some (.int .i64 a2) ∧ U.cell? ⟨(bd.add (i * 7)).block, (bd.add (i * 7)).off + 3, none⟩ = some (.int .i64 a3) ∧ U.cell? ⟨(bd.add (i * 7)).block, (bd.add (i * 7)).off + 4, none⟩ = some (.int .i64 a4) ∧ U.cell? ⟨(bd.add (i * 7)).block, (bd.add (i * 7)).off + 5, none⟩ = some (.int .i64 a5) ∧ U.cell? ⟨(bd.add (i * 7)).block, (bd.add (i * 7)).off + 6, none⟩ = some (.int .i64 a6) ∧ Below w1.heap.size w1 U) := fun U hb => ⟨(HX.out.below hb).c4, (HATI.out U hb).c0, (HATI.out U hb).c1, (HATI.out U hb).c2, (HATI.out U hb).c3, (HATI.out U hb).c4, (HATI.out U hb).c5, (HATI.out U hb).c6, hb⟩
          cases g1 : Ld.tB ⟨a0, a1, a2, a3, a4, a5, a6⟩ with
          | false =>
              have HR2 := Lib.hid (Ld.world_arg (N := N) l1.out l2.out (.inr (Ld.all_stop (p := Ld.tB) hs g1)))
              have HC : Hid (Calls Try.prog 79 #[.agg #[.int .i64 a0, .int .i64 a1, .int .i64 a2, .int .i64 a3, .int .i64 a4, .int .i64 a5, .int .i64 a6]] W fun e U => e = .returned (.int .i64 1) ∧ Hid (Below w1.heap.size w1 U)) :=
                (rtruck_any ⟨a0, a1, a2, a3, a4, a5, a6⟩ W 1 (Ld.tE_no g1)).mono fun _ _ ⟨e1, e2⟩ => ⟨e1, below_next HB.out e2.out⟩
              clear hs g1
              go_wp2_with fail
              with_reducible refine HC.out.mono ?_
              rintro e w7 ⟨rfl, KB⟩
              clear x3 c0 c1 c2 c3 c4 c5 c6 hB HC
              go_wp2
              go_ret
              exact ⟨by rw [← HR.out, HR2.out]; rfl, below_next HB0.out KB.out⟩
          | true =>
              have HALL2 := Lib.hid (Ld.all_snoc (p := Ld.tB) hs HALL.out g1)
              have HC : Hid (Calls Try.prog 79 #[.agg #[.int .i64 a0, .int .i64 a1, .int .i64 a2, .int .i64 a3, .int .i64 a4, .int .i64 a5, .int .i64 a6]] W fun e U => e = .returned (.int .i64 0) ∧ Hid (Below w1.heap.size w1 U)) :=
                (rtruck_any ⟨a0, a1, a2, a3, a4, a5, a6⟩ W 0 (Ld.tE_yes g1)).mono fun _ _ ⟨e1, e2⟩ => ⟨e1, below_next HB.out e2.out⟩
              clear hs g1
              go_wp2_with fail
              with_reducible refine HC.out.mono ?_
              rintro e w7 ⟨rfl, KB⟩
              clear x3 c0 c1 c2 c3 c4 c5 c6 hB HC
              clear HXW HCE
              go_wp2
              go_loopg [3, 7] i (fun gk s3 s5 Wx => ∃ (V : World) (k : Nat) (u : Bool), V = Wx ∧ k + gk = i ∧ s3 = .bool u ∧ s5 = .int .i64 k ∧ Hid (Below w1.heap.size w1 V) ∧ Hid (u = (t || ((ts.map Ld.T.id).take k).any (fun z => z == a0))))
              case atStart => exact ⟨_, 0, t, rfl, by omega, rfl, rfl, KB.out, by unfold Hid; cases t <;> rfl⟩
              case round =>
                obtain ⟨V, k, u, rfl, hkg, rfl, rfl, HBV, HU⟩ := hrel
                by_cases hki : k < i
                · obtain ⟨gi, rfl⟩ : ∃ j, gk = j + 1 := ⟨gk - 1, by omega⟩
                  obtain ⟨s, hs⟩ := mlist_at ts k (by rw [HK.out]; omega)
                  obtain ⟨ad', e, hc⟩ := (HX.out.below HBV.out).ts.at_ hs
                  obtain rfl := Option.some.inj e
                  obtain ⟨y0, _⟩ := s
                  have hc0 := hc.c0
                  simp only at hc0
                  have hcI := (HATI.out V HBV.out).c0
                  simp only at hcI
                  have hidK : (ts.map Ld.T.id)[k]? = some y0 := by rw [List.getElem?_map, hs]; rfl
                  have HU2 : Hid ((u || (y0 == a0)) = (t || ((ts.map Ld.T.id).take (k + 1)).any (fun z => z == a0))) := by
                    unfold Hid
                    rw [Ld.any_snoc hidK]
                    exact Ld.or_go HU.out
                  have x3 := (HX.out.below HBV.out).c4
                  have q0 : (0 : Int) ≤ (k : Int) := by omega
                  have q1 : (k : Int) < (n : Int) := by omega
                  clear hs hc hidK
                  cases u with
                  | true =>
                    clear hc0 hcI
                    go_wp2
                    go_quiet (fail)
                    go_wp2
                    go_roundg gi
                    case measure => omega
                    case rel => exact ⟨_, k + 1, true, rfl, by omega, rfl, by first | rfl | go_num, below_drewN HBV.out _, HU2.out⟩
                  | false =>
                    cases g2 : (y0 == a0) with
                    | true =>
                      rw [g2] at HU2
                      go_wp2
                      go_quiet (fail)
                      go_wp2
                      go_roundg gi
                      case measure => omega
                      case rel => exact ⟨_, k + 1, true, rfl, by omega, rfl, by first | rfl | go_num, below_drewN HBV.out _, HU2.out⟩
                    | false =>
                      rw [g2] at HU2
                      go_wp2
                      go_quiet (fail)
                      go_wp2
                      go_roundg gi
                      case measure => omega
                      case rel => exact ⟨_, k + 1, false, rfl, by omega, rfl, by first | rfl | go_num, below_drewN HBV.out _, HU2.out⟩
                · obtain rfl : k = i := by omega
                  have HU3 : Hid (u = (t0 || Ld.twB ((ts.map Ld.T.id).take (k + 1)))) := by unfold Hid; rw [HSN.out, HU.out, HT.out, Bool.or_assoc]
                  clear hki
                  go_wp2
                  go_roundg go
                  case measure => omega
                  case rel => exact ⟨_, k + 1, u, rfl, by omega, rfl, by first | rfl | go_num, HBV.out, HALL2.out, HU3.out⟩
        · obtain rfl : i = n := by omega
          have HALLT := Lib.hid (Ld.all_full (by rw [HK.out]; exact Nat.le_refl _) HALL.out)
          have HTT : Hid (t = (Ld.twB (os.map Ld.O.id) || Ld.twB (ts.map Ld.T.id))) := by
            unfold Hid
            rw [HT.out, List.take_of_length_le (by rw [List.length_map, HK.out]; exact Nat.le_refl _), HTO.out]
          have x4 := HXW.out.c4
          clear HALL HT hlt
          cases t with
          | true =>
            have HR2 := Lib.hid (Ld.world_two (N := N) l1.out l2.out HALLO.out HALLT.out (by have := HTT.out; rwa [eq_comm, Bool.or_eq_true] at this))
            go_wp2
            go_ret
            exact ⟨by rw [← HR.out, HR2.out]; rfl, below_next HB0.out HB.out⟩
          | false =>
            have hno : Ld.twB (os.map Ld.O.id) = false ∧ Ld.twB (ts.map Ld.T.id) = false := by have := HTT.out; rwa [eq_comm, Bool.or_eq_false_iff] at this
            have HR2 := Lib.hid (Ld.world_ok (N := N) l1.out l2.out HALLO.out HALLT.out hno.1 hno.2)
            clear hno
            go_wp2
            go_ret
            exact ⟨by rw [← HR.out, HR2.out]; rfl, below_next HB0.out HB.out⟩
end Go.Proofs.Ytbacakblboodeaa
