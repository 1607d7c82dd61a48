/- The law's own functions: Same, Equal, Large, large. -/
import Derived.Test.YtbacakblboodeaaPlanOpen
namespace Go.Proofs.Ytbacakblboodeaa
open Go.RowKit
set_option linter.unusedVariables false
set_option maxRecDepth 100000

set_option maxHeartbeats 1000000 in
theorem psame_b (A B : Option Addr) (n c m d : Nat) (a b : List Int) (w : World) (r : Bool) (hr : decide (a = b) = r) (hn : a.length = n) (hm : b.length = m) (hn2 : n ≤ 100000) (hm2 : m ≤ 100000) (ha : IntsAt w A a) (hb : IntsAt w B b) :
    Calls Try.prog 16 #[.slice A n c, .slice B m d] w fun e w' => e = .returned (.bool r) ∧ ∃ q, w' = w.drewN q := by
  have HN := Lib.hid hn
  have HM := Lib.hid hm
  have HA := Lib.hid ha
  have HB := Lib.hid hb
  by_cases hnm : n = m
  · have HR : Hid (∀ k : Nat, (∀ i : Nat, i < k → a[i]? = b[i]?) → n ≤ k → r = true) := fun k hk hnk => by
      rw [← hr, decide_eq_true_iff]
      apply List.ext_getElem?
      intro i
      by_cases hi : i < n
      · exact hk i (by omega)
      · rw [List.getElem?_eq_none (by omega), List.getElem?_eq_none (by omega)]
    have HF : Hid (∀ k : Nat, a[k]? ≠ b[k]? → r = false) := fun k hk => by
      rw [← hr, decide_eq_false_iff_not]
      exact fun e => hk (by rw [e])
    subst hnm
    have d1 : ((n : Int) != (n : Int)) = false := by simp
    clear ha hb hr hn hm
    go_enter Try.func16, Try.ntmps16
    go_wp2
    go_loopg [4, 5] n (fun gk s4 s5 W => ∃ (k q : Nat), k + gk = n ∧ s4 = .bool false ∧ s5 = .int .i64 k ∧ W = w.drewN q ∧ Hid (∀ i : Nat, i < k → a[i]? = b[i]?))
    case atStart => exact ⟨0, 0, by omega, rfl, rfl, rfl, fun i hi => by omega⟩
    case round =>
      obtain ⟨k, q, hkg, rfl, rfl, rfl, HK⟩ := hrel
      by_cases hlt : k < n
      · obtain ⟨gk, rfl⟩ : ∃ j, gk = j + 1 := ⟨gk - 1, by omega⟩
        obtain ⟨x, hx⟩ := mlist_at a k (by rw [HN.out]; exact hlt)
        obtain ⟨y, hy⟩ := mlist_at b k (by rw [HM.out]; exact hlt)
        obtain ⟨ad, rfl, hc0⟩ := HA.out k x hx
        obtain ⟨bd, rfl, hd0⟩ := HB.out k y hy
        have hc1 : (w.drewN q).cell? (ad.add k) = some (.int .i64 x) := by simpa using hc0
        have hd1 : (w.drewN q).cell? (bd.add k) = some (.int .i64 y) := by simpa using hd0
        have i1 : (0 : Int) ≤ (k : Int) := by omega
        have i2 : (k : Int) < (n : Int) := by omega
        have HW : Hid (∀ m, (w.drewN q).drewN m = w.drewN (q + m)) := fun m => by simp
        by_cases hxy : x = y
        · have heq : (x != y) = false := by rw [hxy]; simp
          have HK2 : Hid (∀ i : Nat, i < k + 1 → a[i]? = b[i]?) := fun i hi => by
            by_cases h : i < k
            · exact HK.out i h
            · obtain rfl : i = k := by omega
              rw [hx, hy, hxy]
          clear hx hy hxy hc0 hd0
          generalize w.drewN q = W at *
          go_wp2
          go_quiet (fail)
          go_wp2
          go_roundg gk
          case measure => omega
          case rel => exact ⟨k + 1, _, by omega, rfl, by first | rfl | go_num, HW.out _, HK2.out⟩
        · have heq : (x != y) = true := bne_iff_ne.2 hxy
          have HF2 := Lib.hid (HF.out k (by rw [hx, hy]; exact fun e => hxy (Option.some.inj e)))
          clear hx hy hxy hc0 hd0
          generalize w.drewN q = W at *
          go_wp2
          go_quiet (fail)
          go_wp2
          go_ret
          exact ⟨by rw [HF2.out]; rfl, _, HW.out _⟩
      · have HR2 := Lib.hid (HR.out k HK.out (by omega))
        have hk : k = n := by omega
        subst hk
        go_wp2
        go_ret
        exact ⟨by rw [HR2.out]; rfl, _, rfl⟩
  · have HF : Hid (r = false) := by rw [← hr]; exact decide_eq_false (fun e => hnm (by rw [← hn, ← hm, e]))
    have d1 : ((n : Int) != (m : Int)) = true := bne_iff_ne.2 (by omega)
    clear hnm ha hb hr hn hm
    go_enter Try.func16, Try.ntmps16
    go_wp2
    go_ret
    exact ⟨by rw [HF.out]; rfl, 0, rfl⟩

theorem drewN_below (w : World) (q : Nat) : Below w.heap.size w (w.drewN q) := ⟨rfl, rfl, rfl, Nat.le_refl _, fun _ _ => rfl⟩

def largeB (p : Pd) : Bool := decide (200 < many p.um p.rs)
theorem large_is {p : Pd} : largeB p = true ↔ LargeP p := decide_eq_true_iff

set_option maxHeartbeats 2000000 in
theorem plarge_b (p : Pd) (w : World) (r : Bool) (hr : largeB p = r) (hp : PlanIn w p) (hf : Few p) :
    Calls Try.prog 14 #[.agg #[.slice p.rA p.rm p.rc, .slice p.uA p.um p.uc]] w fun e w' => e = .returned (.bool r) ∧ Hid (Below w.heap.size w w') := by
  have HB0 : Hid (Below w.heap.size w (w.alloc (.cells #[.slice p.rA p.rm p.rc, .slice p.uA p.um p.uc] 45))) := below_alloc _ _
  have HX : Hid (Box (w.alloc (.cells #[.slice p.rA p.rm p.rc, .slice p.uA p.um p.uc] 45)) w.heap.size #[.slice p.rA p.rm p.rc, .slice p.uA p.um p.uc] 45) := Box.new _ _ _
  have HRO := Lib.hid (hp.rows.below HB0.out)
  have HRL := Lib.hid hp.rl
  have HF := Lib.hid hf
  have hum := hp.ux
  have hrm := hp.rx
  unfold maxLen at hum hrm
  have HR := Lib.hid hr
  clear hr hp hf
  go_enter Try.func14, Try.ntmps14
  have x0 : (w.alloc (.cells #[.slice p.rA p.rm p.rc, .slice p.uA p.um p.uc] 45)).cell? ⟨w.heap.size, 0, none⟩ = some (.slice p.rA p.rm p.rc) := HX.out.cell 0 _ rfl
  have x1 : (w.alloc (.cells #[.slice p.rA p.rm p.rc, .slice p.uA p.um p.uc] 45)).cell? ⟨w.heap.size, 1, none⟩ = some (.slice p.uA p.um p.uc) := HX.out.cell 1 _ rfl
  go_wp2_with fail
  generalize w.alloc (.cells #[.slice p.rA p.rm p.rc, .slice p.uA p.um p.uc] 45) = V at *
  generalize hb1 : w.heap.size = b1 at x0 x1 ⊢
  have HB1 := Lib.hid hb1
  clear hb1 x1
  go_loopg [3, 4] p.rm (fun gk s3 s4 W => ∃ (k n : Nat), k + gk = p.rm ∧ s3 = .int .i64 n ∧ s4 = .int .i64 k ∧ V = W ∧ n ≤ 9223372036854775807 ∧ Hid (many p.um (p.rs.take k) = n))
  case atStart => exact ⟨0, p.um, by omega, rfl, rfl, rfl, hum, rfl⟩
  case round =>
    obtain ⟨k, n, hkg, rfl, rfl, rfl, hn, HK⟩ := hrel
    by_cases hlt : k < p.rm
    · obtain ⟨gk, rfl⟩ : ∃ j, gk = j + 1 := ⟨gk - 1, by omega⟩
      have i2 : (k : Int) < (p.rm : Int) := by omega
      by_cases hn2 : n ≤ 200
      · obtain ⟨s, hs⟩ := mlist_at p.rs k (by rw [HRL.out]; exact hlt)
        obtain ⟨ad, hrA, hc⟩ := HRO.out k s hs
        obtain ⟨c0, c1⟩ := hc
        have d2 : decide ((n : Int) ≤ 200) = true := decide_eq_true (by omega)
        have d3 : decide (n ≤ 200) = true := decide_eq_true hn2
        have hsm : s.sm ≤ 140737488355328 := HF.out s (List.mem_of_getElem? hs)
        have HK2 : Hid (many p.um (p.rs.take (k + 1)) = n + s.sm + 1) := by have := many_take hs p.um; rw [HK.out] at this; exact this
        have HRA := Lib.hid hrA
        clear hs hrA
        generalize p.rA = rA at *
        obtain rfl := HRA.out
        go_wp2_with fail
        go_roundg gk
        case measure => omega
        case rel => exact ⟨k + 1, n + s.sm + 1, by omega, by first | rfl | go_num, by first | rfl | go_num, rfl, by omega, HK2.out⟩
      · have d2 : decide ((n : Int) ≤ 200) = false := decide_eq_false (by omega)
        have d3 : decide (n ≤ 200) = false := decide_eq_false hn2
        have d4 : decide ((200 : Int) < (n : Int)) = true := decide_eq_true (by omega)
        have d5 : decide (200 < n) = true := decide_eq_true (by omega)
        have HRT : Hid (r = true) := by
          rw [← HR.out]
          refine large_is.2 ?_
          unfold LargeP
          have h1 := many_split p.rs k p.um
          have h2 := HK.out
          omega
        go_wp2_with fail
        go_ret
        exact ⟨by rw [HRT.out]; rfl, HB0.out⟩
    · have hk : k = p.rm := by omega
      have HRT : Hid (r = decide ((200 : Int) < (n : Int))) := by
        rw [← HR.out, ← HK.out, List.take_of_length_le (by rw [HRL.out]; omega)]
        unfold largeB
        exact decide_eq_decide.2 (by omega)
      obtain ⟨b, hb⟩ : ∃ b, decide ((200 : Int) < (n : Int)) = b := ⟨_, rfl⟩
      have hb2 : decide (200 < n) = b := by rw [← hb]; exact decide_eq_decide.2 (by omega)
      rw [hb] at HRT
      go_wp2_with fail
      go_ret
      exact ⟨by rw [HRT.out]; rfl, HB0.out⟩
end Go.Proofs.Ytbacakblboodeaa
