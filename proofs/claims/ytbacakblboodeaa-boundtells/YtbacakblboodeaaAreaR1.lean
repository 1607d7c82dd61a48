/- The document's answer for areas: Check, in, Leg. -/
import Derived.Test.YtbacakblboodeaaAreaOpenW
namespace Go.Proofs.Ytbacakblboodeaa
open Go.RowKit Go.Shelf
set_option linter.unusedVariables false

theorem fine_at {n i j : Nat} (hj : j < n) (z : Int) : Ar.fineB n (i * n + j) z = true ↔ 0 ≤ z ∧ z ≤ 1000000 ∧ (i = j → z = 0) := by
  rw [Ar.fine_iff]
  have h1 : (i * n + j) / n = i := by rw [Nat.mul_comm, Nat.mul_add_div (by omega), Nat.div_eq_of_lt hj, Nat.add_zero]
  have h2 : (i * n + j) % n = j := by rw [Nat.mul_comm, Nat.mul_add_mod, Nat.mod_eq_of_lt hj]
  rw [h1, h2]

theorem check_bad {N : Int} {D T : List Int} {n p : Nat} (hN : N.toNat = n) (hd : p < D.length) (ht : p < T.length) (h : ¬ (Ar.fineB n p (D.getD p 0) = true ∧ Ar.fineB n p (T.getD p 0) = true)) : Ar.checkE N D T = 1 := by
  apply Ar.check_no
  rw [Bool.eq_false_iff]
  intro e
  obtain ⟨_, _, h3, h4⟩ := (Ar.ok_iff N D T).1 e
  rw [hN] at h3 h4
  exact h ⟨((Ar.row_iff n D).1 h3).2 p hd, ((Ar.row_iff n T).1 h4).2 p ht⟩

set_option maxHeartbeats 4000000 in
set_option maxRecDepth 100000 in
theorem rcheck_in (n : Nat) (dA : Option Addr) (dm dc : Nat) (D : List Int) (tA : Option Addr) (tm tc : Nat) (T : List Int) (w : World) (h : AreaAt w dA dm D tA tm T) (h1 : 1 ≤ n) (h16 : n ≤ 16) (hd : dm = n * n) (ht : tm = n * n) :
    Calls Try.prog 53 #[.agg #[.int .i64 (n : Int), .slice dA dm dc, .slice tA tm tc]] w fun e w' => e = .returned (.int .i64 (Ar.checkE n D T)) ∧ Below w.heap.size w w' := by
  have HBAD := Lib.hid (fun p hp1 hp2 hb => check_bad (N := (n : Int)) (D := D) (T := T) (n := n) (p := p) (by simp) hp1 hp2 hb)
  have HGOOD : Hid ((∀ p, p < n * n → Ar.fineB n p (D.getD p 0) = true ∧ Ar.fineB n p (T.getD p 0) = true) → Ar.checkE (n : Int) D T = 0) := fun hh =>
    Ar.check_yes ((Ar.ok_iff _ _ _).2 ⟨by omega, by omega, (Ar.row_iff _ _).2 ⟨by rw [h.dl, hd]; simp, fun k hk => (hh k (by rw [h.dl, hd] at hk; exact hk)).1⟩, (Ar.row_iff _ _).2 ⟨by rw [h.tl, ht]; simp, fun k hk => (hh k (by rw [h.tl, ht] at hk; exact hk)).2⟩⟩)
  have HDL : Hid (D.length = n * n) := h.dl.trans hd
  have HTL : Hid (T.length = n * n) := h.tl.trans ht
  have e0 : ((n * n : Nat) : Int) = (n : Int) * (n : Int) := by simp
  have hnn : n * n ≤ 256 := Nat.mul_le_mul h16 h16
  have g1 : (0 : Int) ≤ (n : Int) * (n : Int) := by rw [← e0]; omega
  have g2 : (n : Int) * (n : Int) ≤ 256 := by rw [← e0]; omega
  have d1 : decide ((n : Int) < 1) = false := decide_eq_false (by omega)
  have d2 : decide ((16 : Int) < (n : Int)) = false := decide_eq_false (by omega)
  have d3 : ((dm : Int) != (n : Int) * (n : Int)) = false := by rw [← e0, hd]; simp
  have d4 : ((tm : Int) != (n : Int) * (n : Int)) = false := by rw [← e0, ht]; simp
  have HB0 : Hid (Below w.heap.size w (w.alloc (.cells #[.int .i64 (n : Int), .slice dA dm dc, .slice tA tm tc] 24))) := below_alloc _ _
  have HX := Lib.hid (Boxed.new (N := (n : Int)) (dc := dc) (tc := tc) h)
  have hdm : dm ≤ 400 := h.d400
  have htm : tm ≤ 400 := h.t400
  have HD := Lib.hid hd
  have HT := Lib.hid ht
  clear h e0 hd ht
  generalize Ar.checkE (n : Int) D T = ce at *
  go_enter Try.func53, Try.ntmps53
  go_wp2_with fail
  generalize w.alloc (.cells #[.int .i64 (n : Int), .slice dA dm dc, .slice tA tm tc] 24) = W at *
  have x0 := HX.out.c0
  have x1 := HX.out.c1
  have x2 := HX.out.c2
  go_loopg [3] n (fun gk s3 Wr => ∃ (i : Nat), i + gk = n ∧ s3 = .int .i64 (i : Int) ∧ Wr = W ∧ Hid (∀ p, p < i * n → Ar.fineB n p (D.getD p 0) = true ∧ Ar.fineB n p (T.getD p 0) = true))
  case atStart => exact ⟨0, by omega, rfl, rfl, fun p hp => by simp at hp⟩
  case round =>
    obtain ⟨i, hig, rfl, rfl, HI⟩ := hrel
    by_cases hlt : i < n
    · obtain ⟨go, rfl⟩ : ∃ j, gk = j + 1 := ⟨gk - 1, by omega⟩
      obtain ⟨q, hq⟩ : ∃ q, q = i * n := ⟨_, rfl⟩
      have hmul : (i : Int) * (n : Int) = (q : Int) := by rw [hq]; simp
      have hqn : q + n ≤ n * n := by rw [hq, ← Nat.succ_mul]; exact Nat.mul_le_mul_right n hlt
      have HQ := Lib.hid hq
      rw [← hq] at HI
      clear hq
      have hq256 : q + n ≤ 256 := by omega
      have HQN := Lib.hid hqn
      clear hqn
      go_wp2
      go_loopg [4] n (fun gk s4 Wr => ∃ (j : Nat), j + gk = n ∧ s4 = .int .i64 (j : Int) ∧ Wr = wr ∧ Hid (∀ p, p < q + j → Ar.fineB n p (D.getD p 0) = true ∧ Ar.fineB n p (T.getD p 0) = true))
      case atStart => exact ⟨0, by omega, rfl, rfl, HI.out⟩
      case round =>
        obtain ⟨j, hjg, rfl, rfl, HJ⟩ := hrel
        by_cases hjn : j < n
        · obtain ⟨gi, rfl⟩ : ∃ j, gk = j + 1 := ⟨gk - 1, by omega⟩
          have hpn : q + j < n * n := by have := HQN.out; omega
          obtain ⟨x, hx, _⟩ := Ar.some_at D (q + j) (by rw [HDL.out]; exact hpn)
          obtain ⟨y, hy, _⟩ := Ar.some_at T (q + j) (by rw [HTL.out]; exact hpn)
          obtain ⟨ad, rfl, hc1⟩ := HX.out.rows.d _ _ hx
          obtain ⟨at', rfl, hc2⟩ := HX.out.rows.t _ _ hy
          have HBX : Hid (¬ (0 ≤ x ∧ x ≤ 1000000 ∧ (i = j → x = 0)) ∨ ¬ (0 ≤ y ∧ y ≤ 1000000 ∧ (i = j → y = 0)) → ce = 1) := fun hb => HBAD.out (q + j) (by rw [HDL.out]; exact hpn) (by rw [HTL.out]; exact hpn) (by
            rw [Ar.getD_of hx, Ar.getD_of hy, HQ.out, fine_at hjn, fine_at hjn]
            rintro ⟨b1, b2⟩
            rcases hb with hb | hb
            · exact hb b1
            · exact hb b2)
          have HGX : Hid ((0 ≤ x ∧ x ≤ 1000000 ∧ (i = j → x = 0)) → (0 ≤ y ∧ y ≤ 1000000 ∧ (i = j → y = 0)) → ∀ p, p < q + (j + 1) → Ar.fineB n p (D.getD p 0) = true ∧ Ar.fineB n p (T.getD p 0) = true) := fun b1 b2 p hp => by
            by_cases hpj : p < q + j
            · exact HJ.out p hpj
            · obtain rfl : p = q + j := by omega
              rw [Ar.getD_of hx, Ar.getD_of hy, HQ.out, fine_at hjn, fine_at hjn]
              exact ⟨b1, b2⟩
          have i0 : (0 : Int) ≤ (q : Int) + (j : Int) := by omega
          have i1 : (q : Int) + (j : Int) < (dm : Int) := by have := HD.out; omega
          have i2 : (q : Int) + (j : Int) < (tm : Int) := by have := HT.out; omega
          have i3 : ((q : Int) + (j : Int)).toNat = q + j := by omega
          clear hx hy hpn
          by_cases a1 : x < 0
          · have c1 : decide (x < 0) = true := decide_eq_true a1
            have HR := Lib.hid (HBX.out (.inl (by omega)))
            clear HBX HGX
            go_wp2
            go_ret
            exact ⟨by rw [HR.out]; rfl, HB0.out⟩
          · have c1 : decide (x < 0) = false := decide_eq_false a1
            by_cases a2 : y < 0
            · have c2 : decide (y < 0) = true := decide_eq_true a2
              have HR := Lib.hid (HBX.out (.inr (by omega)))
              clear HBX HGX
              go_wp2
              go_ret
              exact ⟨by rw [HR.out]; rfl, HB0.out⟩
            · have c2 : decide (y < 0) = false := decide_eq_false a2
              by_cases a3 : 1000000 < x
              · have c3 : decide (1000000 < x) = true := decide_eq_true a3
                have HR := Lib.hid (HBX.out (.inl (by omega)))
                clear HBX HGX
                go_wp2
                go_ret
                exact ⟨by rw [HR.out]; rfl, HB0.out⟩
              · have c3 : decide (1000000 < x) = false := decide_eq_false a3
                by_cases a4 : 1000000 < y
                · have c4 : decide (1000000 < y) = true := decide_eq_true a4
                  have HR := Lib.hid (HBX.out (.inr (by omega)))
                  clear HBX HGX
                  go_wp2
                  go_ret
                  exact ⟨by rw [HR.out]; rfl, HB0.out⟩
                · have c4 : decide (1000000 < y) = false := decide_eq_false a4
                  by_cases a5 : i = j
                  · have c5 : ((i : Int) == (j : Int)) = true := by rw [beq_iff_eq]; omega
                    by_cases a6 : x = 0
                    · have c6 : (x != 0) = false := by rw [a6]; rfl
                      by_cases a7 : y = 0
                      · have c7 : (y != 0) = false := by rw [a7]; rfl
                        have HJ2 := Lib.hid (HGX.out ⟨by omega, by omega, fun _ => a6⟩ ⟨by omega, by omega, fun _ => a7⟩)
                        clear HGX HJ HBX a5 a6 a7
                        go_wp2
                        go_roundg gi
                        case measure => omega
                        case rel => exact ⟨j + 1, by omega, by first | rfl | go_num, rfl, HJ2.out⟩
                      · have c7 : (y != 0) = true := bne_iff_ne.2 a7
                        have HR := Lib.hid (HBX.out (.inr (fun hh => a7 (hh.2.2 a5))))
                        clear HBX HGX a5 a6
                        go_wp2
                        go_ret
                        exact ⟨by rw [HR.out]; rfl, HB0.out⟩
                    · have c6 : (x != 0) = true := bne_iff_ne.2 a6
                      have HR := Lib.hid (HBX.out (.inl (fun hh => a6 (hh.2.2 a5))))
                      clear HBX HGX a5
                      go_wp2
                      go_ret
                      exact ⟨by rw [HR.out]; rfl, HB0.out⟩
                  · have c5 : ((i : Int) == (j : Int)) = false := by rw [beq_eq_false_iff_ne]; omega
                    have HJ2 := Lib.hid (HGX.out ⟨by omega, by omega, fun e => absurd e a5⟩ ⟨by omega, by omega, fun e => absurd e a5⟩)
                    clear HGX HJ HBX
                    go_wp2
                    go_roundg gi
                    case measure => omega
                    case rel => exact ⟨j + 1, by omega, by first | rfl | go_num, rfl, HJ2.out⟩
        · have hk : j = n := by omega
          subst hk
          have HI2 : Hid (∀ p, p < (i + 1) * j → Ar.fineB j p (D.getD p 0) = true ∧ Ar.fineB j p (T.getD p 0) = true) := fun p hp => HJ.out p (by rw [Nat.succ_mul, ← HQ.out] at hp; exact hp)
          go_wp2
          go_roundg go
          case measure => omega
          case rel => exact ⟨i + 1, by omega, by first | rfl | go_num, rfl, HI2.out⟩
    · have hk : i = n := by omega
      subst hk
      have HG := Lib.hid (HGOOD.out HI.out)
      go_wp2
      go_ret
      exact ⟨by rw [HG.out]; rfl, HB0.out⟩

set_option maxHeartbeats 2000000 in
set_option maxRecDepth 100000 in
theorem rcheck_any (N : Int) (dA : Option Addr) (dm dc : Nat) (D : List Int) (tA : Option Addr) (tm tc : Nat) (T : List Int) (w : World) (h : AreaAt w dA dm D tA tm T) :
    Calls Try.prog 53 #[.agg #[.int .i64 N, .slice dA dm dc, .slice tA tm tc]] w fun e w' => e = .returned (.int .i64 (Ar.checkE N D T)) ∧ Below w.heap.size w w' := by
  have HB0 : Hid (Below w.heap.size w (w.alloc (.cells #[.int .i64 N, .slice dA dm dc, .slice tA tm tc] 24))) := below_alloc _ _
  by_cases h1 : N < 1
  · have d1 : decide (N < 1) = true := decide_eq_true h1
    rw [Ar.check_no (by rw [Bool.eq_false_iff]; intro e; have := (Ar.ok_iff N D T).1 e; omega)]
    clear h
    go_enter Try.func53, Try.ntmps53
    go_wp2
    go_ret
    exact ⟨rfl, HB0.out⟩
  · have d1 : decide (N < 1) = false := decide_eq_false h1
    by_cases h2 : 16 < N
    · have d2 : decide (16 < N) = true := decide_eq_true h2
      rw [Ar.check_no (by rw [Bool.eq_false_iff]; intro e; have := (Ar.ok_iff N D T).1 e; omega)]
      clear h
      go_enter Try.func53, Try.ntmps53
      go_wp2
      go_ret
      exact ⟨rfl, HB0.out⟩
    · have d2 : decide (16 < N) = false := decide_eq_false h2
      obtain ⟨n, rfl⟩ := Int.eq_ofNat_of_zero_le (show 0 ≤ N by omega)
      have h16 : n ≤ 16 := by omega
      have e0 : ((n * n : Nat) : Int) = (n : Int) * (n : Int) := by simp
      have hnn : n * n ≤ 256 := Nat.mul_le_mul h16 h16
      have g1 : (0 : Int) ≤ (n : Int) * (n : Int) := by rw [← e0]; omega
      have g2 : (n : Int) * (n : Int) ≤ 256 := by rw [← e0]; omega
      have hdm := h.d400
      have htm := h.t400
      by_cases h3 : dm = n * n
      · have d3 : ((dm : Int) != (n : Int) * (n : Int)) = false := by rw [← e0, h3]; simp
        by_cases h4 : tm = n * n
        · exact rcheck_in n dA dm dc D tA tm tc T w h (by omega) h16 h3 h4
        · have d4 : ((tm : Int) != (n : Int) * (n : Int)) = true := bne_iff_ne.2 (by rw [← e0]; omega)
          rw [Ar.check_no (by rw [Bool.eq_false_iff]; intro e; have h5 := ((Ar.ok_iff _ D T).1 e).2.2.2; have h6 := ((Ar.row_iff _ T).1 h5).1; rw [h.tl] at h6; simp at h6; exact h4 h6)]
          clear h e0 h3 h4 hnn
          go_enter Try.func53, Try.ntmps53
          go_wp2
          go_ret
          exact ⟨rfl, HB0.out⟩
      · have d3 : ((dm : Int) != (n : Int) * (n : Int)) = true := bne_iff_ne.2 (by rw [← e0]; omega)
        rw [Ar.check_no (by rw [Bool.eq_false_iff]; intro e; have h5 := ((Ar.ok_iff _ D T).1 e).2.2.1; have h6 := ((Ar.row_iff _ D).1 h5).1; rw [h.dl] at h6; simp at h6; exact h3 h6)]
        clear h e0 h3 hnn
        go_enter Try.func53, Try.ntmps53
        go_wp2
        go_ret
        exact ⟨rfl, HB0.out⟩

set_option maxHeartbeats 2000000 in
set_option maxRecDepth 100000 in
theorem rin_any (N : Int) (v1 v2 : Value) (A : Option Addr) (m c : Nat) (l : List Int) (w : World) (o1 : v1.oneCell' = true) (o2 : v2.oneCell' = true) (hm : l.length = m) (hm2 : m ≤ 1000) (hl : IntsAt w A l) :
    Calls Try.prog 56 #[.agg #[.int .i64 N, v1, v2], .slice A m c] w fun e w' => e = .returned (.bool (Ar.insB N l)) ∧ Below w.heap.size w w' := by
  have HB0 : Hid (Below w.heap.size w (w.alloc (.cells #[.int .i64 N, v1, v2] 24))) := below_alloc _ _
  have HX : Hid (Box (w.alloc (.cells #[.int .i64 N, v1, v2] 24)) w.heap.size #[.int .i64 N, v1, v2] 24) := Box.new _ _ _
  have HL : Hid (IntsAt (w.alloc (.cells #[.int .i64 N, v1, v2] 24)) A l) := hl.below HB0.out
  have HM := Lib.hid hm
  have HG := Lib.hid (Ar.ins_iff N l).2
  have HBD := Lib.hid (fun x hx hh => Ar.ins_not (N := N) (x := x) (l := l) hx hh)
  clear hl hm
  generalize Ar.insB N l = r at *
  go_enter Try.func56, Try.ntmps56
  go_wp2_with fail
  generalize w.alloc (.cells #[.int .i64 N, v1, v2] 24) = W at *
  go_loopg [5] m (fun gk s5 Wr => ∃ (k q : Nat), k + gk = m ∧ s5 = .int .i64 k ∧ Wr = W.drewN q ∧ Hid (∀ x ∈ l.take k, Ar.hasB N x = true))
  case atStart => exact ⟨0, 0, by omega, rfl, rfl, fun x hx => by simp at hx⟩
  case round =>
    obtain ⟨k, q, hkg, rfl, rfl, HK⟩ := hrel
    have HBQ : Hid (∀ m', Below w.heap.size w ((W.drewN q).drewN m')) := fun m' => HB0.out.trans ⟨rfl, rfl, rfl, Nat.le_refl _, fun _ _ => rfl⟩
    by_cases hlt : k < m
    · obtain ⟨gk, rfl⟩ : ∃ j, gk = j + 1 := ⟨gk - 1, by omega⟩
      obtain ⟨x, hx, hmem⟩ := Ar.some_at l k (by rw [HM.out]; exact hlt)
      obtain ⟨ad, rfl, hc⟩ := HL.out k x hx
      have hc1 : (W.drewN q).cell? (ad.add k) = some (.int .i64 x) := by simpa using hc
      have x0 : (W.drewN q).cell? ⟨w.heap.size, 0, none⟩ = some (.int .i64 N) := by have := HX.out.cell 0 (.int .i64 N) rfl; simpa using this
      have HW : Hid (∀ m, (W.drewN q).drewN m = W.drewN (q + m)) := fun m => by simp
      have i1 : (0 : Int) ≤ (k : Int) := by omega
      have i2 : (k : Int) < (m : Int) := by omega
      have HTS := Lib.hid (Ar.take_snoc l k x hx)
      have HBX := Lib.hid (HBD.out x hmem)
      clear hx hmem hc
      generalize W.drewN q = V at *
      by_cases a1 : x < 0
      · have c1 : decide (x < 0) = true := decide_eq_true a1
        have HR := Lib.hid (HBX.out ((Ar.has_not N x).2 (.inl a1)))
        go_wp2
        go_quiet (fail)
        go_wp2
        go_ret
        exact ⟨by rw [HR.out]; rfl, HBQ.out _⟩
      · have c1 : decide (x < 0) = false := decide_eq_false a1
        by_cases a2 : N ≤ x
        · have c2 : decide (N ≤ x) = true := decide_eq_true a2
          have HR := Lib.hid (HBX.out ((Ar.has_not N x).2 (.inr a2)))
          go_wp2
          go_quiet (fail)
          go_wp2
          go_ret
          exact ⟨by rw [HR.out]; rfl, HBQ.out _⟩
        · have c2 : decide (N ≤ x) = false := decide_eq_false a2
          have HK2 : Hid (∀ y ∈ l.take (k + 1), Ar.hasB N y = true) := fun y hy => by
            rw [HTS.out] at hy
            rcases List.mem_append.1 hy with hy | hy
            · exact HK.out y hy
            · rw [List.mem_singleton.1 hy]; exact (Ar.has_iff _ _).2 (by omega)
          go_wp2
          go_quiet (fail)
          go_wp2
          go_roundg gk
          case measure => omega
          case rel => exact ⟨k + 1, _, by omega, by first | rfl | go_num, HW.out _, HK2.out⟩
    · have HR := Lib.hid (HG.out (fun x hx => HK.out x (by rw [List.take_of_length_le (by rw [HM.out]; omega)]; exact hx)))
      have hk : k = m := by omega
      subst hk
      go_wp2
      go_ret
      exact ⟨by rw [HR.out]; rfl, HBQ.out 0⟩
end Go.Proofs.Ytbacakblboodeaa
