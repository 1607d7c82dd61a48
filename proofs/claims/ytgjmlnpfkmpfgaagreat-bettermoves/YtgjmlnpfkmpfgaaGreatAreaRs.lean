/- Texts joined: The document's answer for areas: Check, in, Leg. The document's answer for areas: Leg. The document's answer for areas: Tour. The document's answer for areas: Tour, whatever it is given; Near. -/
import Derived.Test.YtgjmlnpfkmpfgaaGreatAreas
section
/-! The document's answer for areas: Check, in, Leg. -/
namespace Go.Proofs.YtgjmlnpfkmpfgaaGreat
open Go.RowKit Go.Shelf
set_option linter.unusedVariables false

theorem fine_at {n i j : Nat} (hj : j < n) (z : Int) : Ar.fineB n (i * n + j) z = true ↔ 0 ≤ z ∧ z ≤ 1000000 ∧ (i = j → z = 0) := by
  rw [Ar.fine_iff]
  have h1 : (i * n + j) / n = i := by rw [Nat.mul_comm, Nat.mul_add_div (by omega), Nat.div_eq_of_lt hj, Nat.add_zero]
  have h2 : (i * n + j) % n = j := by rw [Nat.mul_comm, Nat.mul_add_mod, Nat.mod_eq_of_lt hj]
  rw [h1, h2]

theorem check_bad {N : Int} {D T : List Int} {n p : Nat} (hN : N.toNat = n) (hd : p < D.length) (ht : p < T.length) (h : ¬ (Ar.fineB n p (D.getD p 0) = true ∧ Ar.fineB n p (T.getD p 0) = true)) : Ar.checkE N D T = 1 := by
  apply Ar.check_no
  rw [Bool.eq_false_iff]
  intro e
  obtain ⟨_, _, h3, h4⟩ := (Ar.ok_iff N D T).1 e
  rw [hN] at h3 h4
  exact h ⟨((Ar.row_iff n D).1 h3).2 p hd, ((Ar.row_iff n T).1 h4).2 p ht⟩

set_option maxHeartbeats 4000000 in
set_option maxRecDepth 100000 in
theorem rcheck_in (n : Nat) (dA : Option Addr) (dm dc : Nat) (D : List Int) (tA : Option Addr) (tm tc : Nat) (T : List Int) (w : World) (h : AreaAt w dA dm D tA tm T) (h1 : 1 ≤ n) (h16 : n ≤ 16) (hd : dm = n * n) (ht : tm = n * n) :
    Calls Tryz.prog 78 #[.agg #[.int .i64 (n : Int), .slice dA dm dc, .slice tA tm tc]] w fun e w' => e = .returned (.int .i64 (Ar.checkE n D T)) ∧ Below w.heap.size w w' := by
  have HBAD := Lib.hid (fun p hp1 hp2 hb => check_bad (N := (n : Int)) (D := D) (T := T) (n := n) (p := p) (by simp) hp1 hp2 hb)
  have HGOOD : Hid ((∀ p, p < n * n → Ar.fineB n p (D.getD p 0) = true ∧ Ar.fineB n p (T.getD p 0) = true) → Ar.checkE (n : Int) D T = 0) := fun hh =>
    Ar.check_yes ((Ar.ok_iff _ _ _).2 ⟨by omega, by omega, (Ar.row_iff _ _).2 ⟨by rw [h.dl, hd]; simp, fun k hk => (hh k (by rw [h.dl, hd] at hk; exact hk)).1⟩, (Ar.row_iff _ _).2 ⟨by rw [h.tl, ht]; simp, fun k hk => (hh k (by rw [h.tl, ht] at hk; exact hk)).2⟩⟩)
  have HDL : Hid (D.length = n * n) := h.dl.trans hd
  have HTL : Hid (T.length = n * n) := h.tl.trans ht
  have e0 : ((n * n : Nat) : Int) = (n : Int) * (n : Int) := by simp
  have hnn : n * n ≤ 256 := Nat.mul_le_mul h16 h16
  have g1 : (0 : Int) ≤ (n : Int) * (n : Int) := by rw [← e0]; omega
  have g2 : (n : Int) * (n : Int) ≤ 256 := by rw [← e0]; omega
  have d1 : decide ((n : Int) < 1) = false := decide_eq_false (by omega)
  have d2 : decide ((16 : Int) < (n : Int)) = false := decide_eq_false (by omega)
  have d3 : ((dm : Int) != (n : Int) * (n : Int)) = false := by rw [← e0, hd]; simp
  have d4 : ((tm : Int) != (n : Int) * (n : Int)) = false := by rw [← e0, ht]; simp
  have HB0 : Hid (Below w.heap.size w (w.alloc (.cells #[.int .i64 (n : Int), .slice dA dm dc, .slice tA tm tc] 24))) := below_alloc _ _
  have HX := Lib.hid (Boxed.new (N := (n : Int)) (dc := dc) (tc := tc) h)
  have hdm : dm ≤ 400 := h.d400
  have htm : tm ≤ 400 := h.t400
  have HD := Lib.hid hd
  have HT := Lib.hid ht
  clear h e0 hd ht
  generalize Ar.checkE (n : Int) D T = ce at *
  go_enter Tryz.func78, Tryz.ntmps78
  go_wp2_with fail
  generalize w.alloc (.cells #[.int .i64 (n : Int), .slice dA dm dc, .slice tA tm tc] 24) = W at *
  have x0 := HX.out.c0
  have x1 := HX.out.c1
  have x2 := HX.out.c2
  go_loopg [3] n (fun gk s3 Wr => ∃ (i : Nat), i + gk = n ∧ s3 = .int .i64 (i : Int) ∧ Wr = W ∧ Hid (∀ p, p < i * n → Ar.fineB n p (D.getD p 0) = true ∧ Ar.fineB n p (T.getD p 0) = true))
  case atStart => exact ⟨0, by omega, rfl, rfl, fun p hp => by simp at hp⟩
  case round =>
    obtain ⟨i, hig, rfl, rfl, HI⟩ := hrel
    by_cases hlt : i < n
    · obtain ⟨go, rfl⟩ : ∃ j, gk = j + 1 := ⟨gk - 1, by omega⟩
      obtain ⟨q, hq⟩ : ∃ q, q = i * n := ⟨_, rfl⟩
      have hmul : (i : Int) * (n : Int) = (q : Int) := by rw [hq]; simp
      have hqn : q + n ≤ n * n := by rw [hq, ← Nat.succ_mul]; exact Nat.mul_le_mul_right n hlt
      have HQ := Lib.hid hq
      rw [← hq] at HI
      clear hq
      have hq256 : q + n ≤ 256 := by omega
      have HQN := Lib.hid hqn
      clear hqn
      go_wp2
      go_loopg [4] n (fun gk s4 Wr => ∃ (j : Nat), j + gk = n ∧ s4 = .int .i64 (j : Int) ∧ Wr = wr ∧ Hid (∀ p, p < q + j → Ar.fineB n p (D.getD p 0) = true ∧ Ar.fineB n p (T.getD p 0) = true))
      case atStart => exact ⟨0, by omega, rfl, rfl, HI.out⟩
      case round =>
        obtain ⟨j, hjg, rfl, rfl, HJ⟩ := hrel
        by_cases hjn : j < n
        · obtain ⟨gi, rfl⟩ : ∃ j, gk = j + 1 := ⟨gk - 1, by omega⟩
          have hpn : q + j < n * n := by have := HQN.out; omega
          obtain ⟨x, hx, _⟩ := Ar.some_at D (q + j) (by rw [HDL.out]; exact hpn)
          obtain ⟨y, hy, _⟩ := Ar.some_at T (q + j) (by rw [HTL.out]; exact hpn)
          obtain ⟨ad, rfl, hc1⟩ := HX.out.rows.d _ _ hx
          obtain ⟨at', rfl, hc2⟩ := HX.out.rows.t _ _ hy
          have HBX : Hid (¬ (0 ≤ x ∧ x ≤ 1000000 ∧ (i = j → x = 0)) ∨ ¬ (0 ≤ y ∧ y ≤ 1000000 ∧ (i = j → y = 0)) → ce = 1) := fun hb => HBAD.out (q + j) (by rw [HDL.out]; exact hpn) (by rw [HTL.out]; exact hpn) (by
            rw [Ar.getD_of hx, Ar.getD_of hy, HQ.out, fine_at hjn, fine_at hjn]
            rintro ⟨b1, b2⟩
            rcases hb with hb | hb
            · exact hb b1
            · exact hb b2)
          have HGX : Hid ((0 ≤ x ∧ x ≤ 1000000 ∧ (i = j → x = 0)) → (0 ≤ y ∧ y ≤ 1000000 ∧ (i = j → y = 0)) → ∀ p, p < q + (j + 1) → Ar.fineB n p (D.getD p 0) = true ∧ Ar.fineB n p (T.getD p 0) = true) := fun b1 b2 p hp => by
            by_cases hpj : p < q + j
            · exact HJ.out p hpj
            · obtain rfl : p = q + j := by omega
              rw [Ar.getD_of hx, Ar.getD_of hy, HQ.out, fine_at hjn, fine_at hjn]
              exact ⟨b1, b2⟩
          have i0 : (0 : Int) ≤ (q : Int) + (j : Int) := by omega
          have i1 : (q : Int) + (j : Int) < (dm : Int) := by have := HD.out; omega
          have i2 : (q : Int) + (j : Int) < (tm : Int) := by have := HT.out; omega
          have i3 : ((q : Int) + (j : Int)).toNat = q + j := by omega
          clear hx hy hpn
          by_cases a1 : x < 0
          · have c1 : decide (x < 0) = true := decide_eq_true a1
            have HR := Lib.hid (HBX.out (.inl (by omega)))
            clear HBX HGX
            go_wp2
            go_ret
            exact ⟨by rw [HR.out]; rfl, HB0.out⟩
          · have c1 : decide (x < 0) = false := decide_eq_false a1
            by_cases a2 : y < 0
            · have c2 : decide (y < 0) = true := decide_eq_true a2
              have HR := Lib.hid (HBX.out (.inr (by omega)))
              clear HBX HGX
              go_wp2
              go_ret
              exact ⟨by rw [HR.out]; rfl, HB0.out⟩
            · have c2 : decide (y < 0) = false := decide_eq_false a2
              by_cases a3 : 1000000 < x
              · have c3 : decide (1000000 < x) = true := decide_eq_true a3
                have HR := Lib.hid (HBX.out (.inl (by omega)))
                clear HBX HGX
                go_wp2
                go_ret
                exact ⟨by rw [HR.out]; rfl, HB0.out⟩
              · have c3 : decide (1000000 < x) = false := decide_eq_false a3
                by_cases a4 : 1000000 < y
                · have c4 : decide (1000000 < y) = true := decide_eq_true a4
                  have HR := Lib.hid (HBX.out (.inr (by omega)))
                  clear HBX HGX
                  go_wp2
                  go_ret
                  exact ⟨by rw [HR.out]; rfl, HB0.out⟩
                · have c4 : decide (1000000 < y) = false := decide_eq_false a4
                  by_cases a5 : i = j
                  · have c5 : ((i : Int) == (j : Int)) = true := by rw [beq_iff_eq]; omega
                    by_cases a6 : x = 0
                    · have c6 : (x != 0) = false := by rw [a6]; rfl
                      by_cases a7 : y = 0
                      · have c7 : (y != 0) = false := by rw [a7]; rfl
                        have HJ2 := Lib.hid (HGX.out ⟨by omega, by omega, fun _ => a6⟩ ⟨by omega, by omega, fun _ => a7⟩)
                        clear HGX HJ HBX a5 a6 a7
                        go_wp2
                        go_roundg gi
                        case measure => omega
                        case rel => exact ⟨j + 1, by omega, by first | rfl | go_num, rfl, HJ2.out⟩
                      · have c7 : (y != 0) = true := bne_iff_ne.2 a7
                        have HR := Lib.hid (HBX.out (.inr (fun hh => a7 (hh.2.2 a5))))
                        clear HBX HGX a5 a6
                        go_wp2
                        go_ret
                        exact ⟨by rw [HR.out]; rfl, HB0.out⟩
                    · have c6 : (x != 0) = true := bne_iff_ne.2 a6
                      have HR := Lib.hid (HBX.out (.inl (fun hh => a6 (hh.2.2 a5))))
                      clear HBX HGX a5
                      go_wp2
                      go_ret
                      exact ⟨by rw [HR.out]; rfl, HB0.out⟩
                  · have c5 : ((i : Int) == (j : Int)) = false := by rw [beq_eq_false_iff_ne]; omega
                    have HJ2 := Lib.hid (HGX.out ⟨by omega, by omega, fun e => absurd e a5⟩ ⟨by omega, by omega, fun e => absurd e a5⟩)
                    clear HGX HJ HBX
                    go_wp2
                    go_roundg gi
                    case measure => omega
                    case rel => exact ⟨j + 1, by omega, by first | rfl | go_num, rfl, HJ2.out⟩
        · have hk : j = n := by omega
          subst hk
          have HI2 : Hid (∀ p, p < (i + 1) * j → Ar.fineB j p (D.getD p 0) = true ∧ Ar.fineB j p (T.getD p 0) = true) := fun p hp => HJ.out p (by rw [Nat.succ_mul, ← HQ.out] at hp; exact hp)
          go_wp2
          go_roundg go
          case measure => omega
          case rel => exact ⟨i + 1, by omega, by first | rfl | go_num, rfl, HI2.out⟩
    · have hk : i = n := by omega
      subst hk
      have HG := Lib.hid (HGOOD.out HI.out)
      go_wp2
      go_ret
      exact ⟨by rw [HG.out]; rfl, HB0.out⟩

set_option maxHeartbeats 2000000 in
set_option maxRecDepth 100000 in
theorem rcheck_any (N : Int) (dA : Option Addr) (dm dc : Nat) (D : List Int) (tA : Option Addr) (tm tc : Nat) (T : List Int) (w : World) (h : AreaAt w dA dm D tA tm T) :
    Calls Tryz.prog 78 #[.agg #[.int .i64 N, .slice dA dm dc, .slice tA tm tc]] w fun e w' => e = .returned (.int .i64 (Ar.checkE N D T)) ∧ Below w.heap.size w w' := by
  have HB0 : Hid (Below w.heap.size w (w.alloc (.cells #[.int .i64 N, .slice dA dm dc, .slice tA tm tc] 24))) := below_alloc _ _
  by_cases h1 : N < 1
  · have d1 : decide (N < 1) = true := decide_eq_true h1
    rw [Ar.check_no (by rw [Bool.eq_false_iff]; intro e; have := (Ar.ok_iff N D T).1 e; omega)]
    clear h
    go_enter Tryz.func78, Tryz.ntmps78
    go_wp2
    go_ret
    exact ⟨rfl, HB0.out⟩
  · have d1 : decide (N < 1) = false := decide_eq_false h1
    by_cases h2 : 16 < N
    · have d2 : decide (16 < N) = true := decide_eq_true h2
      rw [Ar.check_no (by rw [Bool.eq_false_iff]; intro e; have := (Ar.ok_iff N D T).1 e; omega)]
      clear h
      go_enter Tryz.func78, Tryz.ntmps78
      go_wp2
      go_ret
      exact ⟨rfl, HB0.out⟩
    · have d2 : decide (16 < N) = false := decide_eq_false h2
      obtain ⟨n, rfl⟩ := Int.eq_ofNat_of_zero_le (show 0 ≤ N by omega)
      have h16 : n ≤ 16 := by omega
      have e0 : ((n * n : Nat) : Int) = (n : Int) * (n : Int) := by simp
      have hnn : n * n ≤ 256 := Nat.mul_le_mul h16 h16
      have g1 : (0 : Int) ≤ (n : Int) * (n : Int) := by rw [← e0]; omega
      have g2 : (n : Int) * (n : Int) ≤ 256 := by rw [← e0]; omega
      have hdm := h.d400
      have htm := h.t400
      by_cases h3 : dm = n * n
      · have d3 : ((dm : Int) != (n : Int) * (n : Int)) = false := by rw [← e0, h3]; simp
        by_cases h4 : tm = n * n
        · exact rcheck_in n dA dm dc D tA tm tc T w h (by omega) h16 h3 h4
        · have d4 : ((tm : Int) != (n : Int) * (n : Int)) = true := bne_iff_ne.2 (by rw [← e0]; omega)
          rw [Ar.check_no (by rw [Bool.eq_false_iff]; intro e; have h5 := ((Ar.ok_iff _ D T).1 e).2.2.2; have h6 := ((Ar.row_iff _ T).1 h5).1; rw [h.tl] at h6; simp at h6; exact h4 h6)]
          clear h e0 h3 h4 hnn
          go_enter Tryz.func78, Tryz.ntmps78
          go_wp2
          go_ret
          exact ⟨rfl, HB0.out⟩
      · have d3 : ((dm : Int) != (n : Int) * (n : Int)) = true := bne_iff_ne.2 (by rw [← e0]; omega)
        rw [Ar.check_no (by rw [Bool.eq_false_iff]; intro e; have h5 := ((Ar.ok_iff _ D T).1 e).2.2.1; have h6 := ((Ar.row_iff _ D).1 h5).1; rw [h.dl] at h6; simp at h6; exact h3 h6)]
        clear h e0 h3 hnn
        go_enter Tryz.func78, Tryz.ntmps78
        go_wp2
        go_ret
        exact ⟨rfl, HB0.out⟩

set_option maxHeartbeats 2000000 in
set_option maxRecDepth 100000 in
theorem rin_any (N : Int) (v1 v2 : Value) (A : Option Addr) (m c : Nat) (l : List Int) (w : World) (o1 : v1.oneCell' = true) (o2 : v2.oneCell' = true) (hm : l.length = m) (hm2 : m ≤ 1000) (hl : IntsAt w A l) :
    Calls Tryz.prog 122 #[.agg #[.int .i64 N, v1, v2], .slice A m c] w fun e w' => e = .returned (.bool (Ar.insB N l)) ∧ Below w.heap.size w w' := by
  have HB0 : Hid (Below w.heap.size w (w.alloc (.cells #[.int .i64 N, v1, v2] 24))) := below_alloc _ _
  have HX : Hid (Box (w.alloc (.cells #[.int .i64 N, v1, v2] 24)) w.heap.size #[.int .i64 N, v1, v2] 24) := Box.new _ _ _
  have HL : Hid (IntsAt (w.alloc (.cells #[.int .i64 N, v1, v2] 24)) A l) := hl.below HB0.out
  have HM := Lib.hid hm
  have HG := Lib.hid (Ar.ins_iff N l).2
  have HBD := Lib.hid (fun x hx hh => Ar.ins_not (N := N) (x := x) (l := l) hx hh)
  clear hl hm
  generalize Ar.insB N l = r at *
  go_enter Tryz.func122, Tryz.ntmps122
  go_wp2_with fail
  generalize w.alloc (.cells #[.int .i64 N, v1, v2] 24) = W at *
  go_loopg [5] m (fun gk s5 Wr => ∃ (k q : Nat), k + gk = m ∧ s5 = .int .i64 k ∧ Wr = W.drewN q ∧ Hid (∀ x ∈ l.take k, Ar.hasB N x = true))
  case atStart => exact ⟨0, 0, by omega, rfl, rfl, fun x hx => by simp at hx⟩
  case round =>
    obtain ⟨k, q, hkg, rfl, rfl, HK⟩ := hrel
    have HBQ : Hid (∀ m', Below w.heap.size w ((W.drewN q).drewN m')) := fun m' => HB0.out.trans ⟨rfl, rfl, rfl, Nat.le_refl _, fun _ _ => rfl⟩
    by_cases hlt : k < m
    · obtain ⟨gk, rfl⟩ : ∃ j, gk = j + 1 := ⟨gk - 1, by omega⟩
      obtain ⟨x, hx, hmem⟩ := Ar.some_at l k (by rw [HM.out]; exact hlt)
      obtain ⟨ad, rfl, hc⟩ := HL.out k x hx
      have hc1 : (W.drewN q).cell? (ad.add k) = some (.int .i64 x) := by simpa using hc
      have x0 : (W.drewN q).cell? ⟨w.heap.size, 0, none⟩ = some (.int .i64 N) := by have := HX.out.cell 0 (.int .i64 N) rfl; simpa using this
      have HW : Hid (∀ m, (W.drewN q).drewN m = W.drewN (q + m)) := fun m => by simp
      have i1 : (0 : Int) ≤ (k : Int) := by omega
      have i2 : (k : Int) < (m : Int) := by omega
      have HTS := Lib.hid (Ar.take_snoc l k x hx)
      have HBX := Lib.hid (HBD.out x hmem)
      clear hx hmem hc
      generalize W.drewN q = V at *
      by_cases a1 : x < 0
      · have c1 : decide (x < 0) = true := decide_eq_true a1
        have HR := Lib.hid (HBX.out ((Ar.has_not N x).2 (.inl a1)))
        go_wp2
        go_quiet (fail)
        go_wp2
        go_ret
        exact ⟨by rw [HR.out]; rfl, HBQ.out _⟩
      · have c1 : decide (x < 0) = false := decide_eq_false a1
        by_cases a2 : N ≤ x
        · have c2 : decide (N ≤ x) = true := decide_eq_true a2
          have HR := Lib.hid (HBX.out ((Ar.has_not N x).2 (.inr a2)))
          go_wp2
          go_quiet (fail)
          go_wp2
          go_ret
          exact ⟨by rw [HR.out]; rfl, HBQ.out _⟩
        · have c2 : decide (N ≤ x) = false := decide_eq_false a2
          have HK2 : Hid (∀ y ∈ l.take (k + 1), Ar.hasB N y = true) := fun y hy => by
            rw [HTS.out] at hy
            rcases List.mem_append.1 hy with hy | hy
            · exact HK.out y hy
            · rw [List.mem_singleton.1 hy]; exact (Ar.has_iff _ _).2 (by omega)
          go_wp2
          go_quiet (fail)
          go_wp2
          go_roundg gk
          case measure => omega
          case rel => exact ⟨k + 1, _, by omega, by first | rfl | go_num, HW.out _, HK2.out⟩
    · have HR := Lib.hid (HG.out (fun x hx => HK.out x (by rw [List.take_of_length_le (by rw [HM.out]; omega)]; exact hx)))
      have hk : k = m := by omega
      subst hk
      go_wp2
      go_ret
      exact ⟨by rw [HR.out]; rfl, HBQ.out 0⟩
end Go.Proofs.YtgjmlnpfkmpfgaaGreat
end

section
/-! The document's answer for areas: Leg. -/
namespace Go.Proofs.YtgjmlnpfkmpfgaaGreat
open Go.RowKit Go.Shelf
set_option linter.unusedVariables false

section
variable {N : Int} {dA tA : Option Addr} {dm dc tm tc : Nat} {D T : List Int}
theorem rcheck_b (W : World) (r : Int) (hr : Ar.checkE N D T = r) (h : AreaAt W dA dm D tA tm T) :
    Calls Tryz.prog 78 #[.agg #[.int .i64 N, .slice dA dm dc, .slice tA tm tc]] W fun e w' => e = .returned (.int .i64 r) ∧ Hid (Below W.heap.size W w') := by
  subst hr
  exact rcheck_any N dA dm dc D tA tm tc T W h
theorem rin_b (A : Option Addr) (m c : Nat) (l : List Int) (W : World) (r : Bool) (hr : Ar.insB N l = r) (hm : l.length = m) (hm2 : m ≤ 1000) (hl : IntsAt W A l) :
    Calls Tryz.prog 122 #[.agg #[.int .i64 N, .slice dA dm dc, .slice tA tm tc], .slice A m c] W fun e w' => e = .returned (.bool r) ∧ Hid (Below W.heap.size W w') := by
  subst hr
  exact rin_any N _ _ A m c l W rfl rfl hm hm2 hl
end

set_option maxHeartbeats 2000000 in
set_option maxRecDepth 100000 in
theorem rleg_any (N : Int) (dA : Option Addr) (dm dc : Nat) (D : List Int) (tA : Option Addr) (tm tc : Nat) (T : List Int) (f t : Int) (w : World) (h : AreaAt w dA dm D tA tm T) :
    Calls Tryz.prog 83 #[.agg #[.int .i64 N, .slice dA dm dc, .slice tA tm tc], .int .i64 f, .int .i64 t] w fun e w' => e = .returned (.tuple #[.int .i64 (Ar.legS N D T f t).1, .int .i64 (Ar.legS N D T f t).2.1, .int .i64 (Ar.legS N D T f t).2.2]) ∧ Below w.heap.size w w' := by
  have HB0 : Hid (Below w.heap.size w (w.alloc (.cells #[.int .i64 N, .slice dA dm dc, .slice tA tm tc] 24))) := below_alloc _ _
  have HX := Lib.hid (Boxed.new (N := N) (dc := dc) (tc := tc) h)
  clear h
  cases hok : Ar.okB N D T with
  | false =>
    have e0 : Ar.legS N D T f t = (0, 0, 1) := by unfold Ar.legS; rw [Ar.told_arg hok, if_neg (by decide)]
    rw [e0]
    have HC := Lib.hid (rcheck_b (N := N) (dc := dc) (tc := tc) _ 1 (Ar.check_no hok) HX.out.rows)
    clear e0 hok
    go_enter Tryz.func83, Tryz.ntmps83
    go_wp2_with fail
    with_reducible refine HC.out.mono ?_
    rintro e w1 ⟨rfl, hb1⟩
    have HB1 := Lib.hid (below_next HB0.out hb1.out)
    clear hb1
    go_wp2
    go_ret3
    exact ⟨rfl, HB1.out⟩
  | true =>
    have HC := Lib.hid (rcheck_b (N := N) (dc := dc) (tc := tc) _ 0 (Ar.check_yes hok) HX.out.rows)
    have ho := Ar.ok_of hok
    generalize N.toNat = n at ho
    cases hin : Ar.insB N [f, t] with
    | false =>
      have e0 : Ar.legS N D T f t = (0, 0, 5) := by unfold Ar.legS; rw [Ar.told_name hok hin, if_neg (by decide)]
      rw [e0]
      have HIN := Lib.hid hin
      clear e0 hok hin ho
      go_enter Tryz.func83, Tryz.ntmps83
      go_wp2_with fail
      generalize w.alloc (.cells #[.int .i64 N, .slice dA dm dc, .slice tA tm tc] 24) = W at *
      with_reducible refine HC.out.mono ?_
      rintro e w1 ⟨rfl, hb1⟩
      have HB1 := Lib.hid (below_next HB0.out hb1.out)
      have x0 := (HX.out.below hb1.out).c0
      have x1 := (HX.out.below hb1.out).c1
      have x2 := (HX.out.below hb1.out).c2
      clear hb1 HC
      go_wp2_with fail
      with_reducible refine (rin_b (N := N) (some ⟨w1.heap.size, 0, none⟩) 2 2 [f, t] _ false HIN.out rfl (by omega) (box_row2 w1 f t _)).mono ?_
      rintro e w2 ⟨rfl, hb2⟩
      have HB2 := Lib.hid (below_next (below_next HB1.out (below_alloc _ _)) hb2.out)
      clear hb2 x0 x1 x2
      go_wp2
      go_ret3
      exact ⟨rfl, HB2.out⟩
    | true =>
      have e0 : Ar.legS N D T f t = (Ar.at2 N D f t, Ar.at2 N T f t, 0) := by unfold Ar.legS; rw [if_pos (Ar.told_ok hok hin)]
      rw [e0]
      clear e0
      obtain ⟨hf, ht⟩ : Ar.hasB N f = true ∧ Ar.hasB N t = true := by
        rw [Ar.ins_cons, Ar.ins_cons, Bool.and_eq_true, Bool.and_eq_true] at hin
        exact ⟨hin.1, hin.2.1⟩
      obtain ⟨f, rfl, hf'⟩ := Ar.has_nat ho.cast hf
      obtain ⟨t, rfl, ht'⟩ := Ar.has_nat ho.cast ht
      clear hf ht
      obtain ⟨p, ad, at', hp, hpd, hpt, rfl, rfl, hc1, hc2⟩ := at_ok ho HX.out.rows hf' ht'
      obtain ⟨q, hq⟩ : ∃ q, q = f * n := ⟨_, rfl⟩
      have hple := Ar.place_le ho.n16 hf' ht'
      have hmul : (f : Int) * N = (q : Int) := by rw [ho.cast, hq]; simp
      have hqp : (q : Int) + (t : Int) = (p : Int) := by rw [hp, hq]; simp
      have hp256 : p ≤ 256 := by rw [hp]; exact hple.2
      have hq256 : q ≤ 256 := by rw [hq]; exact hple.1
      have wq : IntKind.i64.wrap (q : Int) = (q : Int) := IntWalk.i64_in _ (by omega)
      have wp : IntKind.i64.wrap (p : Int) = (p : Int) := IntWalk.i64_in _ (by omega)
      have HIN := Lib.hid hin
      have HC1 := Lib.hid hc1
      have HC2 := Lib.hid hc2
      clear hc1 hc2 hp hq ho hf' ht' hok hin hple
      generalize Ar.at2 N D (f : Int) (t : Int) = dd at *
      generalize Ar.at2 N T (f : Int) (t : Int) = tt at *
      go_enter Tryz.func83, Tryz.ntmps83
      go_wp2_with fail
      generalize w.alloc (.cells #[.int .i64 N, .slice (some ad) dm dc, .slice (some at') tm tc] 24) = W at *
      with_reducible refine HC.out.mono ?_
      rintro e w1 ⟨rfl, hb1⟩
      have HB1 := Lib.hid (below_next HB0.out hb1.out)
      have HX1 := Lib.hid (HX.out.below hb1.out)
      have HD1 : Hid (w1.cell? (ad.add p) = some (.int .i64 dd)) := by unfold Hid; rw [hb1.out.cell (p := ad.add p) (lt_of_cell HC1.out)]; exact HC1.out
      have HD2 : Hid (w1.cell? (at'.add p) = some (.int .i64 tt)) := by unfold Hid; rw [hb1.out.cell (p := at'.add p) (lt_of_cell HC2.out)]; exact HC2.out
      have x0 := HX1.out.c0
      have x1 := HX1.out.c1
      have x2 := HX1.out.c2
      clear hb1 HC HC1 HC2
      go_wp2_with fail
      with_reducible refine (rin_b (N := N) (some ⟨w1.heap.size, 0, none⟩) 2 2 [(f : Int), (t : Int)] _ true HIN.out rfl (by omega) (box_row2 w1 f t _)).mono ?_
      rintro e w2 ⟨rfl, hb2⟩
      have hb12 := below_next (below_alloc w1 (.cells #[.int .i64 (f : Int), .int .i64 (t : Int)] 3)) hb2.out
      have HB2 := Lib.hid (below_next HB1.out hb12)
      clear x0 x1 x2
      have x0 := (HX1.out.below hb12).c0
      have x1 := (HX1.out.below hb12).c1
      have x2 := (HX1.out.below hb12).c2
      have y1 : w2.cell? (ad.add p) = some (.int .i64 dd) := by rw [hb12.cell (p := ad.add p) (lt_of_cell HD1.out)]; exact HD1.out
      have y2 : w2.cell? (at'.add p) = some (.int .i64 tt) := by rw [hb12.cell (p := at'.add p) (lt_of_cell HD2.out)]; exact HD2.out
      have i0 : (0 : Int) ≤ (p : Int) := by omega
      have i1 : (p : Int) < (dm : Int) := by omega
      have i2 : (p : Int) < (tm : Int) := by omega
      clear hb2 hb12 HX1 HB1 HD1 HD2 HX HB0
      go_wp2
      go_quiet (fail)
      go_wp2
      go_ret3
      exact ⟨rfl, HB2.out.trans ⟨rfl, rfl, rfl, Nat.le_refl _, fun _ _ => rfl⟩⟩

theorem rleg_b {N : Int} {dA tA : Option Addr} {dm dc tm tc : Nat} {D T : List Int} {w W : World} (f t r1 r2 r3 : Int) (h : AreaAt w dA dm D tA tm T) (hb : Below w.heap.size w W) (hr : Ar.legS N D T f t = (r1, r2, r3)) :
    Calls Tryz.prog 83 #[.agg #[.int .i64 N, .slice dA dm dc, .slice tA tm tc], .int .i64 f, .int .i64 t] W fun e w' => e = .returned (.tuple #[.int .i64 r1, .int .i64 r2, .int .i64 r3]) ∧ Hid (Below W.heap.size W w') :=
  (rleg_any N dA dm dc D tA tm tc T f t W (h.below hb)).mono fun _ _ ⟨e1, e2⟩ => ⟨by rw [e1, hr], e2⟩
end Go.Proofs.YtgjmlnpfkmpfgaaGreat
end

section
/-! The document's answer for areas: Tour. -/
namespace Go.Proofs.YtgjmlnpfkmpfgaaGreat
open Go.RowKit Go.Shelf
set_option linter.unusedVariables false

theorem goes_at : ∀ (l : List Int) (f : Int) (k : Nat) (x y : Int), (f :: l)[k]? = some x → (f :: l)[k + 1]? = some y → (Ar.goes f l)[k]? = some (x, y) := by
  intro l
  induction l with
  | nil => intro f k x y _ h; simp at h
  | cons z r ih =>
    intro f k x y h1 h2
    cases k with
    | zero => simp at h1 h2; subst h1 h2; rfl
    | succ k => exact ih z k x y (by simpa using h1) (by simpa using h2)
theorem ins_round {N : Int} {l : List Int} (h0 : Ar.hasB N 0 = true) (hl : Ar.insB N l = true) : ∀ x ∈ [0] ++ l ++ [0], Ar.hasB N x = true := by
  refine (Ar.ins_iff N _).1 ?_
  rw [Ar.ins_app, Ar.ins_app, hl, Ar.ins_cons, h0]
  rfl
theorem legS_in {N : Int} {D T : List Int} {f t : Int} (hok : Ar.okB N D T = true) (hf : Ar.hasB N f = true) (ht : Ar.hasB N t = true) : Ar.legS N D T f t = (Ar.at2 N D f t, Ar.at2 N T f t, 0) := by
  unfold Ar.legS
  rw [if_pos (Ar.told_ok hok (by rw [Ar.ins_cons, Ar.ins_cons, hf, ht]; rfl))]
theorem owni_ints {W : World} {base : Nat} {A : Option Addr} {m c : Nat} {l : List Int} (h : OwnI W base (.slice A m c) l) : IntsAt W A l := by
  obtain ⟨A', c', e, _, _, h2⟩ := h.ints
  injection e with e1
  subst e1
  exact h2
theorem sum_take {N : Int} {D T : List Int} {n : Nat} (ho : Ar.Ok N D T n) {l : List Int} (h0 : Ar.hasB N 0 = true) (hl : Ar.insB N l = true) (k : Nat) (hk : k ≤ 101) :
    (0 ≤ Ar.sumX N D ((Ar.tourX l).take k) ∧ Ar.sumX N D ((Ar.tourX l).take k) ≤ 101000000) ∧ (0 ≤ Ar.sumX N T ((Ar.tourX l).take k) ∧ Ar.sumX N T ((Ar.tourX l).take k) ≤ 101000000) := by
  have hb := Ar.sumX_bd ho ((Ar.tourX l).take k) (fun p hp => Ar.insX_tour h0 hl p (List.mem_of_mem_take hp))
  have hle : ((Ar.tourX l).take k).length ≤ k := List.length_take_le _ _
  omega

set_option maxHeartbeats 4000000 in
set_option maxRecDepth 100000 in
theorem rtour_in (N : Int) (dA : Option Addr) (dm dc : Nat) (D : List Int) (tA : Option Addr) (tm tc : Nat) (T : List Int) (n : Nat) (A : Option Addr) (m c : Nat) (l : List Int) (w : World) (h : AreaAt w dA dm D tA tm T) (hm : l.length = m) (hm2 : m ≤ 100) (hl : IntsAt w A l)
    (ho : Ar.Ok N D T n) (hok : Ar.okB N D T = true) (hin : Ar.insB N l = true) :
    Calls Tryz.prog 84 #[.agg #[.int .i64 N, .slice dA dm dc, .slice tA tm tc], .slice A m c] w fun e w' => e = .returned (.tuple #[.int .i64 (Ar.sumX N D (Ar.tourX l)), .int .i64 (Ar.sumX N T (Ar.tourX l)), .int .i64 0]) ∧ Below w.heap.size w w' := by
  have HB0 : Hid (Below w.heap.size w (w.alloc (.cells #[.int .i64 N, .slice dA dm dc, .slice tA tm tc] 24))) := below_alloc _ _
  have HX := Lib.hid (Boxed.new (N := N) (dc := dc) (tc := tc) h)
  have HL : Hid (IntsAt (w.alloc (.cells #[.int .i64 N, .slice dA dm dc, .slice tA tm tc] 24)) A l) := hl.below HB0.out
  have HM := Lib.hid hm
  have HO := Lib.hid ho
  have HOK := Lib.hid hok
  have HIN := Lib.hid hin
  have HC := Lib.hid (rcheck_b (N := N) (dc := dc) (tc := tc) _ 0 (Ar.check_yes hok) HX.out.rows)
  have d100 : decide ((100 : Int) < (m : Int)) = false := decide_eq_false (by omega)
  clear h hl hm ho hok hin
  go_enter Tryz.func84, Tryz.ntmps84
  go_wp2_with fail
  generalize w.alloc (.cells #[.int .i64 N, .slice dA dm dc, .slice tA tm tc] 24) = W at *
  with_reducible refine HC.out.mono ?_
  rintro e w1 ⟨rfl, hb1⟩
  have HB1 := Lib.hid (below_next HB0.out hb1.out)
  have HX1 := Lib.hid (HX.out.below hb1.out)
  have HL1 := Lib.hid (HL.out.below hb1.out)
  have x0 := HX1.out.c0
  have x1 := HX1.out.c1
  have x2 := HX1.out.c2
  clear hb1 HC HX HL HB0
  go_wp2_with fail
  with_reducible refine (rin_b (N := N) A m c l w1 true HIN.out HM.out (by omega) HL1.out).mono ?_
  rintro e w2 ⟨rfl, hb2⟩
  have HB2 := Lib.hid (below_next HB1.out hb2.out)
  have HX2 := Lib.hid (HX1.out.below hb2.out)
  have HL2 := Lib.hid (HL1.out.below hb2.out)
  clear hb2 HX1 HL1 HB1 x0 x1 x2
  have HA1 : Hid (∃ v' w', (Builtin.append_ #[30, 30] 30 #[.slice (some ⟨w2.heap.size, 0, none⟩) 1 1, .slice A m c]).run Tryz.prog (w2.alloc (.cells #[.int .i64 0] 3)) = .ok v' w' ∧ ByI w2 w2.heap.size ([0] ++ l) (1 + m) v' w') := by
    obtain ⟨v', w', h1, A', c', e, h2⟩ := owni_app (own_one w2 w2.heap.size 0 (Nat.le_refl _)) (by simp) A m c l HM.out (HL2.out.alloc _) (by simp; omega)
    exact ⟨v', w', h1, A', c', e, h2.out.1, ((Below.refl _ w2).alloc (Nat.le_refl _) _).trans h2.out.2⟩
  have HA2 : Hid (∀ w4 A4 c4, OwnI w4 w2.heap.size (.slice A4 (1 + m) c4) ([0] ++ l) ∧ Below w2.heap.size w2 w4 → ∃ v' w', (Builtin.append_ #[30, 30] 30 #[.slice A4 (1 + m) c4, .slice (some ⟨w4.heap.size, 0, none⟩) 1 1]).run Tryz.prog (w4.alloc (.cells #[.int .i64 0] 3)) = .ok v' w' ∧ ByI w2 w2.heap.size ([0] ++ l ++ [0]) (1 + m + 1) v' w') := fun w4 A4 c4 hp => by
    have hlen : ([0] ++ l).length = 1 + m := by rw [List.length_append, HM.out]; rfl
    obtain ⟨v', w', h1, A', c', e, h2⟩ := owni_app (hp.1.below (below_alloc _ _)) (by have := hp.2.size; simp; omega) (some ⟨w4.heap.size, 0, none⟩) 1 1 [0] rfl (ints1 w4 0 3) (by rw [hlen]; omega)
    rw [hlen] at e
    exact ⟨v', w', h1, A', c', e, h2.out.1, (hp.2.alloc hp.2.size _).trans h2.out.2⟩
  go_wp2_with (first
    | (at_builtin; refine wpList_append_any rfl (.tmp 26) (.tmp 27) 30 30 rfl _ _ rfl rfl _ (HA2.out _ _ _ HP4.out) ?_; intro v5 w5 hap; obtain ⟨A5, c5, rfl, HP5⟩ := hap)
    | (at_builtin; refine wpList_append_any rfl (.tmp 24) (.tmp 25) 30 30 rfl _ _ rfl rfl _ HA1.out ?_; intro v4 w4 hap; obtain ⟨A4, c4, rfl, HP4⟩ := hap))
  have HX5 := Lib.hid (HX2.out.below HP5.out.2)
  have HB5 := Lib.hid (below_next HB2.out HP5.out.2)
  have HI5 := Lib.hid (owni_ints HP5.out.1)
  have HRL : Hid (([0] ++ l ++ [0]).length = m + 2) := by unfold Hid; rw [List.length_append, List.length_append, HM.out]; simp; omega
  clear HA1 HA2 HP4 HP5 HX2 HL2 HB2
  obtain ⟨R, hR⟩ : ∃ R, R = 1 + m + 1 := ⟨_, rfl⟩
  have hR2 : R = m + 2 := by omega
  rw [← hR]
  have hRl : R ≤ 102 := by omega
  have HR2 := Lib.hid hR2
  clear hR hR2
  go_loopg [8, 9, 10] (R - 1) (fun gk s8 s9 s10 Wr => ∃ (j : Nat), j + gk = R - 1 ∧ s8 = .int .i64 (Ar.sumX N D ((Ar.tourX l).take j)) ∧ s9 = .int .i64 (Ar.sumX N T ((Ar.tourX l).take j)) ∧ s10 = .int .i64 ((j + 1 : Nat) : Int) ∧ Hid (Below w5.heap.size w5 Wr))
  case atStart => exact ⟨0, by omega, rfl, rfl, rfl, Below.refl _ _⟩
  case round =>
    obtain ⟨j, hjg, rfl, rfl, rfl, HB⟩ := hrel
    have HX6 := Lib.hid (HX5.out.below HB.out)
    have HB6 := Lib.hid (below_next HB5.out HB.out)
    obtain ⟨i, hi⟩ : ∃ i, i = j + 1 := ⟨_, rfl⟩
    rw [← hi]
    by_cases hlt : j + 1 < R
    · obtain ⟨gk, rfl⟩ : ∃ q, gk = q + 1 := ⟨gk - 1, by omega⟩
      obtain ⟨x, hx, hxm⟩ := Ar.some_at ([0] ++ l ++ [0]) j (by rw [HRL.out]; have := HR2.out; omega)
      obtain ⟨y, hy, hym⟩ := Ar.some_at ([0] ++ l ++ [0]) (j + 1) (by rw [HRL.out]; have := HR2.out; omega)
      obtain ⟨ad, rfl, c1⟩ := (HI5.out.below HB.out) j x hx
      obtain ⟨ad', e, c2⟩ := (HI5.out.below HB.out) (j + 1) y hy
      obtain rfl := Option.some.inj e
      have hg : (Ar.tourX l)[j]? = some (x, y) := goes_at (l ++ [0]) 0 j x y (by simpa using hx) (by simpa using hy)
      have hts := Ar.take_snoc (Ar.tourX l) j (x, y) hg
      have hsd : Ar.sumX N D ((Ar.tourX l).take (j + 1)) = Ar.sumX N D ((Ar.tourX l).take j) + Ar.at2 N D x y := by rw [hts, Ar.sumX_snoc]
      have hst : Ar.sumX N T ((Ar.tourX l).take (j + 1)) = Ar.sumX N T ((Ar.tourX l).take j) + Ar.at2 N T x y := by rw [hts, Ar.sumX_snoc]
      have HSD := Lib.hid hsd
      have HST := Lib.hid hst
      have hh1 := ins_round HO.out.has0 HIN.out x hxm
      have hh2 := ins_round HO.out.has0 HIN.out y hym
      obtain ⟨had1, had2⟩ := HO.out.at_d hh1 hh2
      obtain ⟨hat1, hat2⟩ := HO.out.at_t hh1 hh2
      obtain ⟨⟨hs1, hs2⟩, hs3, hs4⟩ := sum_take HO.out HO.out.has0 HIN.out j (by omega)
      have HLS := Lib.hid (legS_in HOK.out hh1 hh2)
      rw [← hi] at c2
      have HLEG : Hid (∀ W' : World, (W'.cell? ⟨w.heap.size, 0, none⟩ = some (.int .i64 N) ∧ W'.cell? ⟨w.heap.size, 1, none⟩ = some (.slice dA dm dc) ∧ W'.cell? ⟨w.heap.size, 2, none⟩ = some (.slice tA tm tc) ∧ W'.cell? (ad.add j) = some (.int .i64 x) ∧ W'.cell? (ad.add i) = some (.int .i64 y) ∧ Below w5.heap.size w5 W') →
          Calls Tryz.prog 83 #[.agg #[.int .i64 N, .slice dA dm dc, .slice tA tm tc], .int .i64 x, .int .i64 y] W' fun e w' => e = .returned (.tuple #[.int .i64 (Ar.at2 N D x y), .int .i64 (Ar.at2 N T x y), .int .i64 0]) ∧ (w'.cell? ⟨w.heap.size, 0, none⟩ = some (.int .i64 N) ∧ w'.cell? ⟨w.heap.size, 1, none⟩ = some (.slice dA dm dc) ∧ w'.cell? ⟨w.heap.size, 2, none⟩ = some (.slice tA tm tc) ∧ w'.cell? (ad.add j) = some (.int .i64 x) ∧ w'.cell? (ad.add i) = some (.int .i64 y) ∧ Below w5.heap.size w5 w')) := fun W' hW => by
        obtain ⟨e0, e1, e2, e3, e4, e5⟩ := hW
        refine (rleg_b (w := w5) x y _ _ _ HX5.out.rows e5 HLS.out).mono fun _ _ ⟨p1, p2⟩ => ⟨p1, ?_⟩
        have hk : ∀ (pp : Addr) (v : Value), W'.cell? pp = some v → _ := fun pp v hv => (p2.out.cell (p := pp) (lt_of_cell hv)).trans hv
        exact ⟨hk _ _ e0, hk _ _ e1, hk _ _ e2, hk _ _ e3, hk _ _ e4, below_next e5 p2.out⟩
      have hsub : (i : Int) - 1 = (j : Int) := by omega
      have wj : IntKind.i64.wrap (j : Int) = (j : Int) := IntWalk.i64_in _ (by omega)
      have i0 : (0 : Int) ≤ (j : Int) := by omega
      have i1 : (j : Int) < (R : Int) := by omega
      have i2 : (0 : Int) ≤ (i : Int) := by omega
      have i3 : (i : Int) < (R : Int) := by omega
      have hi101 : i ≤ 101 := by omega
      have HI := Lib.hid hi
      have x0 := HX6.out.c0
      have x1 := HX6.out.c1
      have x2 := HX6.out.c2
      have hB := HB.out.drew
      clear hx hy hxm hym hg hts hsd hst hh1 hh2 hi
      generalize Ar.at2 N D x y = dd at *
      generalize Ar.at2 N T x y = tt at *
      generalize Ar.sumX N D ((Ar.tourX l).take j) = sd at *
      generalize Ar.sumX N T ((Ar.tourX l).take j) = st at *
      go_wp2
      go_region_held3 (fun W' : World => W'.cell? ⟨w.heap.size, 0, none⟩ = some (.int .i64 N) ∧ W'.cell? ⟨w.heap.size, 1, none⟩ = some (.slice dA dm dc) ∧ W'.cell? ⟨w.heap.size, 2, none⟩ = some (.slice tA tm tc) ∧ W'.cell? (ad.add j) = some (.int .i64 x) ∧ W'.cell? (ad.add i) = some (.int .i64 y) ∧ Below w5.heap.size w5 W') (first | exact ⟨x0, x1, x2, c1, c2, hB⟩ | exact ⟨k0, k1, k2, k3, k4, kb⟩ | assumption)
        (first
          | (go_at_call 83; ((with_reducible refine (HLEG.out _ (by assumption)).mono ?_)); rintro e w7 ⟨rfl, k0, k1, k2, k3, k4, kb⟩))
      have KB := Lib.hid kb
      clear k0 k1 k2 k3 k4 kb x0 x1 x2 c1 c2 hB hsub HLEG
      go_wp2
      go_roundg gk
      case measure => omega
      case rel => exact ⟨j + 1, by omega, by rw [HSD.out], by rw [HST.out], by rw [HI.out]; first | rfl | go_num, KB.out⟩
    · have HTK : Hid ((Ar.tourX l).take j = Ar.tourX l) := by unfold Hid; rw [List.take_of_length_le]; rw [Ar.tourX_len, HM.out]; have := HR2.out; omega
      rw [HTK.out]
      have d1 : decide ((i : Int) < (R : Int)) = false := decide_eq_false (by omega)
      have d2 : decide (i < R) = false := decide_eq_false (by omega)
      have hnl : ¬ i < R := by omega
      clear hi HTK
      go_wp2
      go_ret3
      exact ⟨rfl, HB6.out⟩
end Go.Proofs.YtgjmlnpfkmpfgaaGreat
end

section
/-! The document's answer for areas: Tour, whatever it is given; Near. -/
namespace Go.Proofs.YtgjmlnpfkmpfgaaGreat
open Go.RowKit Go.Shelf
set_option linter.unusedVariables false

set_option maxHeartbeats 2000000 in
set_option maxRecDepth 100000 in
theorem rtour_any (N : Int) (dA : Option Addr) (dm dc : Nat) (D : List Int) (tA : Option Addr) (tm tc : Nat) (T : List Int) (A : Option Addr) (m c : Nat) (l : List Int) (w : World) (h : AreaAt w dA dm D tA tm T) (hm : l.length = m) (hm2 : m ≤ 1000) (hl : IntsAt w A l) :
    Calls Tryz.prog 84 #[.agg #[.int .i64 N, .slice dA dm dc, .slice tA tm tc], .slice A m c] w fun e w' => e = .returned (.tuple #[.int .i64 (Ar.tourS N D T l).1, .int .i64 (Ar.tourS N D T l).2.1, .int .i64 (Ar.tourS N D T l).2.2]) ∧ Below w.heap.size w w' := by
  have HB0 : Hid (Below w.heap.size w (w.alloc (.cells #[.int .i64 N, .slice dA dm dc, .slice tA tm tc] 24))) := below_alloc _ _
  have HX := Lib.hid (Boxed.new (N := N) (dc := dc) (tc := tc) h)
  cases hok : Ar.okB N D T with
  | false =>
    have e0 : Ar.tourS N D T l = (0, 0, 1) := by unfold Ar.tourS; rw [Ar.told_arg hok, if_neg (by decide)]
    rw [e0]
    have HC := Lib.hid (rcheck_b (N := N) (dc := dc) (tc := tc) _ 1 (Ar.check_no hok) HX.out.rows)
    clear e0 hok h hl hm
    go_enter Tryz.func84, Tryz.ntmps84
    go_wp2_with fail
    with_reducible refine HC.out.mono ?_
    rintro e w1 ⟨rfl, hb1⟩
    have HB1 := Lib.hid (below_next HB0.out hb1.out)
    clear hb1
    go_wp2
    go_ret3
    exact ⟨rfl, HB1.out⟩
  | true =>
    cases hin : Ar.insB N l with
    | true =>
      by_cases hm100 : m ≤ 100
      · have e0 : Ar.tourS N D T l = (Ar.sumX N D (Ar.tourX l), Ar.sumX N T (Ar.tourX l), 0) := by unfold Ar.tourS; rw [if_pos (Ar.told_ok hok hin), if_neg (by omega)]
        rw [e0]
        exact rtour_in N dA dm dc D tA tm tc T N.toNat A m c l w h hm hm100 hl (Ar.ok_of hok) hok hin
      · have e0 : Ar.tourS N D T l = (0, 0, 4) := by unfold Ar.tourS; rw [if_pos (Ar.told_ok hok hin), if_pos (by omega)]
        rw [e0]
        have HC := Lib.hid (rcheck_b (N := N) (dc := dc) (tc := tc) _ 0 (Ar.check_yes hok) HX.out.rows)
        have HL : Hid (IntsAt (w.alloc (.cells #[.int .i64 N, .slice dA dm dc, .slice tA tm tc] 24)) A l) := hl.below HB0.out
        have HIN := Lib.hid hin
        have HM := Lib.hid hm
        have d100 : decide ((100 : Int) < (m : Int)) = true := decide_eq_true (by omega)
        clear e0 hok hin h hl hm
        go_enter Tryz.func84, Tryz.ntmps84
        go_wp2_with fail
        generalize w.alloc (.cells #[.int .i64 N, .slice dA dm dc, .slice tA tm tc] 24) = W at *
        with_reducible refine HC.out.mono ?_
        rintro e w1 ⟨rfl, hb1⟩
        have HB1 := Lib.hid (below_next HB0.out hb1.out)
        have HL1 := Lib.hid (HL.out.below hb1.out)
        have x0 := (HX.out.below hb1.out).c0
        have x1 := (HX.out.below hb1.out).c1
        have x2 := (HX.out.below hb1.out).c2
        clear hb1 HC
        go_wp2_with fail
        with_reducible refine (rin_b (N := N) A m c l w1 true HIN.out HM.out (by omega) HL1.out).mono ?_
        rintro e w2 ⟨rfl, hb2⟩
        have HB2 := Lib.hid (below_next HB1.out hb2.out)
        clear hb2 x0 x1 x2
        go_wp2
        go_ret3
        exact ⟨rfl, HB2.out⟩
    | false =>
      have e0 : Ar.tourS N D T l = (0, 0, 5) := by unfold Ar.tourS; rw [Ar.told_name hok hin, if_neg (by decide)]
      rw [e0]
      have HC := Lib.hid (rcheck_b (N := N) (dc := dc) (tc := tc) _ 0 (Ar.check_yes hok) HX.out.rows)
      have HL : Hid (IntsAt (w.alloc (.cells #[.int .i64 N, .slice dA dm dc, .slice tA tm tc] 24)) A l) := hl.below HB0.out
      have HIN := Lib.hid hin
      have HM := Lib.hid hm
      clear e0 hok hin h hl hm
      go_enter Tryz.func84, Tryz.ntmps84
      go_wp2_with fail
      generalize w.alloc (.cells #[.int .i64 N, .slice dA dm dc, .slice tA tm tc] 24) = W at *
      with_reducible refine HC.out.mono ?_
      rintro e w1 ⟨rfl, hb1⟩
      have HB1 := Lib.hid (below_next HB0.out hb1.out)
      have HL1 := Lib.hid (HL.out.below hb1.out)
      have x0 := (HX.out.below hb1.out).c0
      have x1 := (HX.out.below hb1.out).c1
      have x2 := (HX.out.below hb1.out).c2
      clear hb1 HC
      go_wp2_with fail
      with_reducible refine (rin_b (N := N) A m c l w1 false HIN.out HM.out (by omega) HL1.out).mono ?_
      rintro e w2 ⟨rfl, hb2⟩
      have HB2 := Lib.hid (below_next HB1.out hb2.out)
      clear hb2 x0 x1 x2
      go_wp2
      go_ret3
      exact ⟨rfl, HB2.out⟩

end Go.Proofs.YtgjmlnpfkmpfgaaGreat
end
