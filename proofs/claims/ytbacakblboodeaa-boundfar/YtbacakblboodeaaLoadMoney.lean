/- Contracts of what package load takes of package money: Sum and what it calls. -/
import Derived.Test.YtbacakblboodeaaAreaMem
import Derived.Test.YtbacakblboodeaaMaths
namespace Go.Proofs.Ytbacakblboodeaa
open Go.RowKit
set_option linter.unusedVariables false

theorem mlist_at {α : Type} (l : List α) (k : Nat) (h : k < l.length) : ∃ x, l[k]? = some x := ⟨l[k], List.getElem?_eq_getElem h⟩

set_option maxHeartbeats 400000 in
theorem mon_mayBe (n : Int) (w : World) :
    Calls Try.prog 59 #[.int .i64 n] w fun e w' => e = .returned (.bool (Grp.mayB n)) ∧ w = w' := by
  by_cases h1 : -4611686018427387903 ≤ n
  · by_cases h2 : n ≤ 4611686018427387903
    · have e : Grp.mayB n = true := (Grp.mayB_iff n).2 ⟨h1, h2⟩
      rw [e]
      go_enter Try.func59, Try.ntmps59
      go_wp2
      go_ret
      exact ⟨rfl, rfl⟩
    · have e : Grp.mayB n = false := (Grp.mayB_no n).2 (by omega)
      rw [e]
      go_enter Try.func59, Try.ntmps59
      go_wp2
      go_ret
      exact ⟨rfl, rfl⟩
  · have e : Grp.mayB n = false := (Grp.mayB_no n).2 (by omega)
    rw [e]
    go_enter Try.func59, Try.ntmps59
    go_wp2
    go_ret
    exact ⟨rfl, rfl⟩

set_option maxHeartbeats 400000 in
theorem mon_checked (n : Int) (w : World) :
    Calls Try.prog 77 #[.int .i64 n] w fun e w' => e = .returned (.tuple #[.int .i64 (if Grp.mayB n = true then n else 0), .int .i64 (if Grp.mayB n = true then 0 else 4)]) ∧ w = w' := by
  cases h : Grp.mayB n
  all_goals
    go_enter Try.func77, Try.ntmps77
    go_wp2_with (go_at_call 59; refine (mon_mayBe _ _).mono ?_; rintro e w' ⟨rfl, rfl⟩)
    go_ret2
    exact ⟨rfl, rfl⟩

set_option maxHeartbeats 400000 in
theorem mon_add (a b : Int) (w : World) :
    Calls Try.prog 52 #[.int .i64 a, .int .i64 b] w fun e w' => e = .returned (.tuple #[.int .i64 (Grp.addS a b).1, .int .i64 (Grp.addS a b).2]) ∧ w = w' := by
  cases ha : Grp.mayB a
  · have e : Grp.addS a b = (0, 1) := by unfold Grp.addS; simp [ha]
    rw [e]
    clear e
    go_enter Try.func52, Try.ntmps52
    go_wp2_with (go_at_call 59; refine (mon_mayBe _ _).mono ?_; rintro e w' ⟨rfl, rfl⟩)
    go_ret2
    exact ⟨rfl, rfl⟩
  · cases hb : Grp.mayB b
    · have e : Grp.addS a b = (0, 1) := by unfold Grp.addS; simp [hb]
      rw [e]
      clear e
      go_enter Try.func52, Try.ntmps52
      go_wp2_with (go_at_call 59; refine (mon_mayBe _ _).mono ?_; rintro e w' ⟨rfl, rfl⟩)
      go_ret2
      exact ⟨rfl, rfl⟩
    · have e : Grp.addS a b = (if Grp.mayB (a + b) = true then a + b else 0, if Grp.mayB (a + b) = true then 0 else 4) := by
        unfold Grp.addS; simp only [ha, hb, and_self, if_true]; split <;> rfl
      rw [e]
      clear e
      have ha' := (Grp.mayB_iff a).1 ha
      have hb' := (Grp.mayB_iff b).1 hb
      obtain ⟨a1, a2⟩ := ha'
      obtain ⟨b1, b2⟩ := hb'
      go_enter Try.func52, Try.ntmps52
      go_wp2_with (first | (go_at_call 59; refine (mon_mayBe _ _).mono ?_; rintro e w' ⟨rfl, rfl⟩) | (go_at_call 77; refine (mon_checked _ _).mono ?_; rintro e w' ⟨rfl, rfl⟩))
      all_goals
        go_ret2
        exact ⟨rfl, rfl⟩

set_option maxHeartbeats 1000000 in
theorem mon_sum (A : Option Addr) (c : Nat) (zs : List Int) (w : World) (hl : zs.length ≤ maxLen) (hc : IntsAt w A zs) :
    Calls Try.prog 41 #[.slice A zs.length c] w fun e w' => e = .returned (.tuple #[.int .i64 (Grp.sumS zs).1, .int .i64 (Grp.sumS zs).2]) ∧ w = w' := by
  unfold maxLen at hl
  have HC := Lib.hid hc
  clear hc
  go_enter Try.func41, Try.ntmps41
  go_wp2_with fail
  go_loop [13] (fun i => ∃ k : Nat, k ≤ zs.length ∧ i = .int .i64 k ∧ Hid ((zs.take k).all Grp.mayB = true)) (fun i => zs.length - (intOf i).toNat)
  case atStart => exact ⟨0, by omega, rfl, rfl⟩
  case round =>
    obtain ⟨k, hk, rfl, hall⟩ := hrel
    by_cases hlt : k < zs.length
    · obtain ⟨z, hz⟩ := mlist_at zs k hlt
      obtain ⟨ad, rfl, hcell⟩ := HC.out k z hz
      have HZ := Lib.hid hz
      clear hz
      cases hm : Grp.mayB z
      · go_wp2_with (go_at_call 59; refine (mon_mayBe _ _).mono ?_; rintro e w' ⟨rfl, rfl⟩)
        go_ret2
        exact ⟨by rw [show Grp.sumS zs = (0, 1) from by unfold Grp.sumS; rw [Grp.all_false zs k z HZ.out hm]; rfl]; rfl, rfl⟩
      · go_wp2_with (go_at_call 59; refine (mon_mayBe _ _).mono ?_; rintro e w' ⟨rfl, rfl⟩)
        go_round
        case rel => exact ⟨k + 1, by omega, by go_num, by show _ = _; rw [Grp.all_take zs k z HZ.out hall.out]; exact hm⟩
        case measure => simp [intOf]; omega
    · obtain rfl : k = zs.length := by omega
      have hall' : Hid (zs.all Grp.mayB = true) := by have := hall.out; rw [List.take_length] at this; exact this
      clear hall hlt
      go_wp2_with fail
      go_loop [6, 23] (fun s i => ∃ (k : Nat) (n : Int), k ≤ zs.length ∧ i = .int .i64 k ∧ s = .int .i64 n ∧ -4611686018427387903 ≤ n ∧ n ≤ 4611686018427387903 ∧ Hid (Grp.sumFrom 0 zs = Grp.sumFrom n (zs.drop k))) (fun _ i => zs.length - (intOf i).toNat)
      case atStart => exact ⟨0, 0, by omega, rfl, rfl, by omega, by omega, rfl⟩
      case round =>
        obtain ⟨k, n, hk, rfl, rfl, n1, n2, hs⟩ := hrel
        have es : Hid (Grp.sumS zs = Grp.sumFrom 0 zs) := by show _ = _; unfold Grp.sumS; rw [hall'.out]; rfl
        by_cases hlt : k < zs.length
        · obtain ⟨z, hz⟩ := mlist_at zs k hlt
          obtain ⟨ad, rfl, hcell⟩ := HC.out k z hz
          have hmz := Grp.all_at zs k z hz hall'.out
          have hmn : Grp.mayB n = true := (Grp.mayB_iff n).2 ⟨n1, n2⟩
          have hst := Grp.sumFrom_step n zs k z hz
          clear hz
          cases hm : Grp.mayB (n + z)
          · rw [hm] at hst
            have HST := Lib.hid hst
            have hadd := Grp.addS_full n z hmn hmz hm
            clear hst hm hmn hmz
            go_wp2_with (go_at_call 52; refine (mon_add _ _ _).mono ?_; rintro e w' ⟨rfl, rfl⟩)
            go_ret2
            exact ⟨by rw [es.out, hs.out, HST.out]; rfl, rfl⟩
          · rw [hm] at hst
            have HST := Lib.hid hst
            have hadd := Grp.addS_yes n z hmn hmz hm
            have hb := (Grp.mayB_iff _).1 hm
            obtain ⟨b1, b2⟩ := hb
            clear hst hm hmn hmz
            go_wp2_with (go_at_call 52; refine (mon_add _ _ _).mono ?_; rintro e w' ⟨rfl, rfl⟩)
            go_round
            case rel => exact ⟨k + 1, n + z, by omega, by go_num, rfl, b1, b2, by show _ = _; rw [hs.out, HST.out]; rfl⟩
            case measure => simp [intOf]; omega
        · go_wp2_with fail
          go_ret2
          exact ⟨by rw [es.out, hs.out, Grp.sumFrom_end n zs k (by omega)]; rfl, rfl⟩
end Go.Proofs.Ytbacakblboodeaa
