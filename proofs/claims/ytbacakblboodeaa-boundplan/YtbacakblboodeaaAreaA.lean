/- Contracts of package area: mayBe, has, place. -/
import Derived.Test.YtbacakblboodeaaAreaMem
namespace Go.Proofs.Ytbacakblboodeaa
open Go.RowKit
set_option linter.unusedVariables false

set_option maxHeartbeats 1000000 in
theorem place_any (N : Int) (v1 v2 : Value) (n f t : Nat) (w : World) (hN : N = (n : Int)) (hn : n ≤ 16) (hf : f < n) (ht : t < n) :
    Calls Try.prog 74 #[.agg #[.int .i64 N, v1, v2], .int .i64 (f : Int), .int .i64 (t : Int)] w fun e w' => e = .returned (.int .i64 ((f * n + t : Nat) : Int)) ∧ Below w.heap.size w w' := by
  subst hN
  have hp := Ar.place_le hn hf ht
  have e1 : ((f * n + t : Nat) : Int) = (f : Int) * (n : Int) + (t : Int) := by simp
  have e0 : ((f * n : Nat) : Int) = (f : Int) * (n : Int) := by simp
  have h1 : (0 : Int) ≤ (f : Int) * (n : Int) := by rw [← e0]; omega
  have h2 : (f : Int) * (n : Int) ≤ 256 := by rw [← e0]; omega
  rw [e1]
  clear e1 e0 hp
  go_enter Try.func74, Try.ntmps74
  go_wp2
  go_ret
  exact ⟨rfl, below_alloc _ _⟩

set_option maxHeartbeats 1000000 in
theorem has_any (N x : Int) (v1 v2 : Value) (w : World) :
    Calls Try.prog 100 #[.agg #[.int .i64 N, v1, v2], .int .i64 x] w fun e w' => e = .returned (.bool (Ar.hasB N x)) ∧ Below w.heap.size w w' := by
  by_cases h0 : 0 ≤ x
  · have d0 : decide (0 ≤ x) = true := decide_eq_true h0
    by_cases h1 : x < N
    · have d1 : decide (x < N) = true := decide_eq_true h1
      rw [(Ar.has_iff N x).2 ⟨h0, h1⟩]
      go_enter Try.func100, Try.ntmps100
      go_wp2
      go_ret
      exact ⟨rfl, below_alloc _ _⟩
    · have d1 : decide (x < N) = false := decide_eq_false h1
      rw [(Ar.has_not N x).2 (by omega)]
      go_enter Try.func100, Try.ntmps100
      go_wp2
      go_ret
      exact ⟨rfl, below_alloc _ _⟩
  · have d0 : decide (0 ≤ x) = false := decide_eq_false h0
    rw [(Ar.has_not N x).2 (by omega)]
    go_enter Try.func100, Try.ntmps100
    go_wp2
    go_ret
    exact ⟨rfl, below_alloc _ _⟩

set_option maxHeartbeats 2000000 in
set_option maxRecDepth 100000 in
theorem mayBe_any (n : Nat) (A : Option Addr) (m c : Nat) (D : List Int) (w : World) (hn1 : 1 ≤ n) (hn : n ≤ 16) (hm : D.length = m) (hml : m ≤ maxLen) (hD : IntsAt w A D) :
    Calls Try.prog 62 #[.int .i64 (n : Int), .slice A m c] w fun e w' => e = .returned (.bool (Ar.rowB n D)) ∧ ∃ q, w' = w.drewN q := by
  unfold maxLen at hml
  have hnn : n * n ≤ 256 := Nat.mul_le_mul hn hn
  have e0 : ((n * n : Nat) : Int) = (n : Int) * (n : Int) := by simp
  have h1 : (0 : Int) ≤ (n : Int) * (n : Int) := by rw [← e0]; omega
  have h2 : (n : Int) * (n : Int) ≤ 256 := by rw [← e0]; omega
  by_cases hmn : m = n * n
  · have d0 : ((m : Int) != (n : Int) * (n : Int)) = false := by rw [← e0, hmn]; simp
    have HD := Lib.hid hD
    have HM := Lib.hid hm
    have HT : Hid ((∀ k, k < m → Ar.fineB n k (D.getD k 0) = true) → Ar.rowB n D = true) := fun h => (Ar.row_iff n D).2 ⟨hm.trans hmn, by rw [hm]; exact h⟩
    have HF : Hid (∀ k, k < m → Ar.fineB n k (D.getD k 0) = false → Ar.rowB n D = false) := fun k hk h => Ar.row_at (by omega) h
    have hm256 : m ≤ 256 := by omega
    have HE0 := Lib.hid e0
    clear hD hm e0 hmn hnn
    generalize Ar.rowB n D = r at *
    go_enter Try.func62, Try.ntmps62
    go_wp2
    go_loopg [4, 15] m (fun gk s4 s15 W => ∃ (k q : Nat), k + gk = m ∧ s4 = .bool false ∧ s15 = .int .i64 k ∧ W = w.drewN q ∧ Hid (∀ i, i < k → Ar.fineB n i (D.getD i 0) = true))
    case atStart => exact ⟨0, 0, by omega, rfl, rfl, rfl, fun i hi => by omega⟩
    case round =>
      obtain ⟨k, q, hkg, rfl, rfl, rfl, HK⟩ := hrel
      by_cases hlt : k < m
      · obtain ⟨gk, rfl⟩ : ∃ j, gk = j + 1 := ⟨gk - 1, by omega⟩
        obtain ⟨z, hz, _⟩ := Ar.some_at D k (by rw [HM.out]; exact hlt)
        obtain ⟨ad, rfl, hc⟩ := HD.out k z hz
        have hc1 : (w.drewN q).cell? (ad.add k) = some (.int .i64 z) := by simpa using hc
        have HZ := Lib.hid (Ar.getD_of hz)
        have HW : Hid (∀ m, (w.drewN q).drewN m = w.drewN (q + m)) := fun m => by simp
        have HF2 := Lib.hid (HF.out k hlt)
        have i1 : (0 : Int) ≤ (k : Int) := by omega
        have i2 : (k : Int) < (m : Int) := by omega
        clear hz hc
        generalize hWq : w.drewN q = W at *
        have HWQ := Lib.hid hWq
        clear hWq
        by_cases z0 : z < 0
        · have d1 : decide (z < 0) = true := decide_eq_true z0
          have HR : Hid (r = false) := HF2.out (by rw [HZ.out, Bool.eq_false_iff]; intro e; have := (Ar.fine_iff _ _ _).1 e; omega)
          go_wp2
          go_ret
          exact ⟨by rw [HR.out]; rfl, q, HWQ.out.symm⟩
        · have d1 : decide (z < 0) = false := decide_eq_false z0
          by_cases z1 : 1000000 < z
          · have d2 : decide (1000000 < z) = true := decide_eq_true z1
            have HR : Hid (r = false) := HF2.out (by rw [HZ.out, Bool.eq_false_iff]; intro e; have := (Ar.fine_iff _ _ _).1 e; omega)
            go_wp2
            go_ret
            exact ⟨by rw [HR.out]; rfl, q, HWQ.out.symm⟩
          · have d2 : decide (1000000 < z) = false := decide_eq_false z1
            have g1 : ¬ n = 0 := by omega
            have hquo : IntKind.i64.wrap ((k : Int) / (n : Int)) = (k : Int) / (n : Int) := IntWalk.i64_in _ (by
              have e : (k : Int) / (n : Int) = ((k / n : Nat) : Int) := by simp
              have h3 := Nat.div_le_self k n
              rw [e]
              generalize k / n = x at *
              omega)
            have hrem : (k : Int).tmod (n : Int) = (k : Int) % (n : Int) := Int.tmod_eq_emod_of_nonneg (by omega)
            by_cases hd : k / n = k % n
            · have d3 : ((k : Int) / (n : Int) == (k : Int) % (n : Int)) = true := by rw [beq_iff_eq]; have : ((k / n : Nat) : Int) = ((k % n : Nat) : Int) := by rw [hd]
                                                                                      simpa using this
              by_cases z2 : z = 0
              · subst z2
                have HK2 : Hid (∀ i, i < k + 1 → Ar.fineB n i (D.getD i 0) = true) := fun i hi => by
                  by_cases h : i < k
                  · exact HK.out i h
                  · obtain rfl : i = k := by omega
                    rw [HZ.out]
                    exact (Ar.fine_iff _ _ _).2 ⟨by omega, by omega, fun _ => rfl⟩
                clear hd HF2
                go_wp2
                go_quiet (fail)
                go_wp2
                go_roundg gk
                case measure => omega
                case rel => exact ⟨k + 1, _, by omega, rfl, by first | rfl | go_num, HW.out _, HK2.out⟩
              · have d4 : (z != 0) = true := bne_iff_ne.2 z2
                have HR : Hid (r = false) := HF2.out (by rw [HZ.out, Bool.eq_false_iff]; intro e; exact z2 (((Ar.fine_iff _ _ _).1 e).2.2 hd))
                clear hd HF2
                go_wp2
                go_quiet (fail)
                go_wp2
                go_ret
                exact ⟨by rw [HR.out]; rfl, _, HW.out _⟩
            · have d3 : ((k : Int) / (n : Int) == (k : Int) % (n : Int)) = false := by
                rw [beq_eq_false_iff_ne]
                intro e
                apply hd
                have : ((k / n : Nat) : Int) = ((k % n : Nat) : Int) := by simpa using e
                exact Int.ofNat.inj this
              have HK2 : Hid (∀ i, i < k + 1 → Ar.fineB n i (D.getD i 0) = true) := fun i hi => by
                by_cases h : i < k
                · exact HK.out i h
                · obtain rfl : i = k := by omega
                  rw [HZ.out]
                  exact (Ar.fine_iff _ _ _).2 ⟨by omega, by omega, fun e => absurd e hd⟩
              clear hd HF2
              go_wp2
              go_quiet (fail)
              go_wp2
              go_roundg gk
              case measure => omega
              case rel => exact ⟨k + 1, _, by omega, rfl, by first | rfl | go_num, HW.out _, HK2.out⟩
      · have HR2 := Lib.hid (HT.out (fun i hi => HK.out i (by omega)))
        have hk : k = m := by omega
        subst hk
        go_wp2
        go_ret
        exact ⟨by rw [HR2.out]; rfl, _, rfl⟩
  · rw [Ar.row_len (by rw [hm]; exact hmn)]
    have d0 : ((m : Int) != (n : Int) * (n : Int)) = true := bne_iff_ne.2 (by rw [← e0]; omega)
    clear e0 hm hmn hD
    go_enter Try.func62, Try.ntmps62
    go_wp2
    go_ret
    exact ⟨rfl, 0, rfl⟩
end Go.Proofs.Ytbacakblboodeaa
