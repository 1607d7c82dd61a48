/- Contracts of the document's own product and share for package money, for every argument. -/
import Derived.Test.YtpkbbhdhoibbjaaMoneyRef
namespace Go.Proofs.Ytpkbbhdhoibbjaa
open Go.RowKit

set_option maxHeartbeats 400000 in
theorem rshare_no (t p a : Int) (w : World) (h : Grp.shOk t p a = false) :
    Calls Try.prog 15 #[.int .i64 t, .int .i64 p, .int .i64 a] w fun e w' => e = .returned (.tuple #[.int .i64 0, .int .i64 0, .int .i64 1]) ∧ w = w' := by
  unfold Grp.shOk at h
  cases h1 : Grp.mayB t
  · clear h
    go_enter Try.func15, Try.ntmps15
    go_wp2_with (go_at_call 18; refine (rmay_any _ _).mono ?_; rintro e w' ⟨rfl, rfl⟩)
    go_ret3
    exact ⟨rfl, rfl⟩
  · cases h2 : Grp.mayB a
    · clear h
      go_enter Try.func15, Try.ntmps15
      go_wp2_with (go_at_call 18; refine (rmay_any _ _).mono ?_; rintro e w' ⟨rfl, rfl⟩)
      go_ret3
      exact ⟨rfl, rfl⟩
    · rw [h1, h2] at h
      by_cases h3 : t < 0
      · clear h
        go_enter Try.func15, Try.ntmps15
        go_wp2_with (go_at_call 18; refine (rmay_any _ _).mono ?_; rintro e w' ⟨rfl, rfl⟩)
        go_ret3
        exact ⟨rfl, rfl⟩
      · by_cases h4 : a < 1
        · clear h
          go_enter Try.func15, Try.ntmps15
          go_wp2_with (go_at_call 18; refine (rmay_any _ _).mono ?_; rintro e w' ⟨rfl, rfl⟩)
          go_ret3
          exact ⟨rfl, rfl⟩
        · by_cases h5 : p < 0
          · clear h
            go_enter Try.func15, Try.ntmps15
            go_wp2_with (go_at_call 18; refine (rmay_any _ _).mono ?_; rintro e w' ⟨rfl, rfl⟩)
            go_ret3
            exact ⟨rfl, rfl⟩
          · have h6 : a < p := by simp at h; omega
            clear h
            go_enter Try.func15, Try.ntmps15
            go_wp2_with (go_at_call 18; refine (rmay_any _ _).mono ?_; rintro e w' ⟨rfl, rfl⟩)
            go_ret3
            exact ⟨rfl, rfl⟩

set_option maxHeartbeats 1000000 in
theorem rshare_yes (k : Nat) : ∀ (t p a : Int) (w : World), t ≤ k → Grp.shOk t p a = true →
    Calls Try.prog 15 #[.int .i64 t, .int .i64 p, .int .i64 a] w fun e w' => e = .returned (.tuple #[.int .i64 (t * p / a), .int .i64 (t * p % a), .int .i64 0]) ∧ w = w' := by
  induction k with
  | zero =>
    intro t p a w hk h
    obtain ⟨t1, t2, a1, a2, p1, p2⟩ := (Grp.shOk_iff t p a).1 h
    obtain rfl : t = 0 := by omega
    have hmt : Grp.mayB 0 = true := by decide
    have hma : Grp.mayB a = true := by rw [Grp.mayB_iff]; omega
    rw [show (0 : Int) * p / a = 0 from by simp, show (0 : Int) * p % a = 0 from by simp]
    clear h
    go_enter Try.func15, Try.ntmps15
    go_wp2_with (go_at_call 18; refine (rmay_any _ _).mono ?_; rintro e w' ⟨rfl, rfl⟩)
    go_ret3
    exact ⟨rfl, rfl⟩
  | succ k ih =>
    intro t p a w hk h
    obtain ⟨t1, t2, a1, a2, p1, p2⟩ := (Grp.shOk_iff t p a).1 h
    have IH := Lib.hid ih
    clear ih
    have hmt : Grp.mayB t = true := by rw [Grp.mayB_iff]; omega
    have hma : Grp.mayB a = true := by rw [Grp.mayB_iff]; omega
    by_cases hz : t = 0
    · subst hz
      rw [show (0 : Int) * p / a = 0 from by simp, show (0 : Int) * p % a = 0 from by simp]
      clear h
      go_enter Try.func15, Try.ntmps15
      go_wp2_with (go_at_call 18; refine (rmay_any _ _).mono ?_; rintro e w' ⟨rfl, rfl⟩)
      go_ret3
      exact ⟨rfl, rfl⟩
    · have hz' : (t == 0) = false := by simp [hz]
      have hs : Grp.shOk (t / 2) p a = true := (Grp.shOk_iff _ _ _).2 (by omega)
      have hh := Grp.half_share t p a a1 p1 p2 t1
      have r0 : 0 ≤ t / 2 * p % a := Int.emod_nonneg _ (by omega)
      have r1 : t / 2 * p % a < a := Int.emod_lt_of_pos _ (by omega)
      have n0 : 0 ≤ t / 2 * p / a := Int.ediv_nonneg (Int.mul_nonneg (by omega) p1) (by omega)
      have n1 : t / 2 * p / a ≤ t / 2 := Int.ediv_le_of_le_mul (by omega) (Int.mul_le_mul_of_nonneg_left p2 (by omega))
      have HS := Lib.hid hs
      clear h hs
      by_cases hodd : t % 2 = 1
      · have ho : (t % 2 == 1) = true := by simp [hodd]
        have hf := Lib.hid (hh.1 hodd)
        have HO := Lib.hid hodd
        have q0 : 0 ≤ 2 * (t / 2 * p % a) % a := Int.emod_nonneg _ (by omega)
        have q1 : 2 * (t / 2 * p % a) % a < a := Int.emod_lt_of_pos _ (by omega)
        have d0 : 0 ≤ 2 * (t / 2 * p % a) / a := Int.ediv_nonneg (by omega) (by omega)
        have d1 : 2 * (t / 2 * p % a) / a ≤ 1 := by have : 2 * (t / 2 * p % a) / a < 2 := Int.ediv_lt_of_lt_mul (by omega) (by omega); omega
        have c0 : 0 ≤ (p + 2 * (t / 2 * p % a) % a) / a := Int.ediv_nonneg (by omega) (by omega)
        have c1 : (p + 2 * (t / 2 * p % a) % a) / a ≤ 1 := by have : (p + 2 * (t / 2 * p % a) % a) / a < 2 := Int.ediv_lt_of_lt_mul (by omega) (by omega); omega
        clear hh hodd
        go_enter Try.func15, Try.ntmps15
        go_wp2_with (first | (go_at_call 18; refine (rmay_any _ _).mono ?_; rintro e w' ⟨rfl, rfl⟩) | (go_at_call 15; refine (IH.out _ _ _ _ (by omega) HS.out).mono ?_; rintro e w' ⟨rfl, rfl⟩))
        go_ret3
        exact ⟨by rw [← hf.out.1, ← hf.out.2]; rfl, rfl⟩
      · have he : t % 2 = 0 := by omega
        have ho : (t % 2 == 1) = false := by simp [he]
        have hf := Lib.hid (hh.2 he)
        have d0 : 0 ≤ 2 * (t / 2 * p % a) / a := Int.ediv_nonneg (by omega) (by omega)
        have d1 : 2 * (t / 2 * p % a) / a ≤ 1 := by have : 2 * (t / 2 * p % a) / a < 2 := Int.ediv_lt_of_lt_mul (by omega) (by omega); omega
        clear hh hodd he
        go_enter Try.func15, Try.ntmps15
        go_wp2_with (first | (go_at_call 18; refine (rmay_any _ _).mono ?_; rintro e w' ⟨rfl, rfl⟩) | (go_at_call 15; refine (IH.out _ _ _ _ (by omega) HS.out).mono ?_; rintro e w' ⟨rfl, rfl⟩))
        go_ret3
        exact ⟨by rw [← hf.out.1, ← hf.out.2]; rfl, rfl⟩

theorem rshare_any (t p a : Int) (w : World) :
    Calls Try.prog 15 #[.int .i64 t, .int .i64 p, .int .i64 a] w fun e w' => e = .returned (.tuple #[.int .i64 (Grp.shareS t p a).1, .int .i64 (Grp.shareS t p a).2.1, .int .i64 (Grp.shareS t p a).2.2]) ∧ w = w' := by
  cases h : Grp.shOk t p a
  · have e : Grp.shareS t p a = (0, 0, 1) := by unfold Grp.shareS; rw [h]; rfl
    rw [e]; exact rshare_no t p a w h
  · have e : Grp.shareS t p a = (t * p / a, t * p % a, 0) := by unfold Grp.shareS; rw [h]; rfl
    rw [e]; exact rshare_yes t.toNat t p a w (by have := (Grp.shOk_iff _ _ _).1 h; omega) h

set_option maxHeartbeats 1000000 in
theorem rmul_any (a b : Int) (w : World) :
    Calls Try.prog 11 #[.int .i64 a, .int .i64 b] w fun e w' => e = .returned (.tuple #[.int .i64 (Grp.mulS a b).1, .int .i64 (Grp.mulS a b).2]) ∧ w = w' := by
  cases ha : Grp.mayB a
  · have e : Grp.mulS a b = (0, 1) := by unfold Grp.mulS; simp [ha]
    rw [e]
    clear e
    go_enter Try.func11, Try.ntmps11
    go_wp2_with (go_at_call 18; refine (rmay_any _ _).mono ?_; rintro e w' ⟨rfl, rfl⟩)
    go_ret2
    exact ⟨rfl, rfl⟩
  · cases hb : Grp.mayB b
    · have e : Grp.mulS a b = (0, 1) := by unfold Grp.mulS; simp [hb]
      rw [e]
      clear e
      go_enter Try.func11, Try.ntmps11
      go_wp2_with (go_at_call 18; refine (rmay_any _ _).mono ?_; rintro e w' ⟨rfl, rfl⟩)
      go_ret2
      exact ⟨rfl, rfl⟩
    · have ha' := (Grp.mayB_iff a).1 ha
      have hb' := (Grp.mayB_iff b).1 hb
      obtain ⟨a1, a2⟩ := ha'
      obtain ⟨b1, b2⟩ := hb'
      have P0 : 0 ≤ Grp.sizeI a ∧ Grp.sizeI a ≤ 4611686018427387903 := by rw [Grp.sizeI_nat]; omega
      have P1 : 0 ≤ Grp.sizeI b ∧ Grp.sizeI b ≤ 4611686018427387903 := by rw [Grp.sizeI_nat]; omega
      have st := Grp.mulRel_start (Grp.sizeI a) (Grp.sizeI b) P0.1 P0.2 P1.1 P1.2
      have pn : 0 ≤ Grp.sizeI a * Grp.sizeI b := Int.mul_nonneg P0.1 P1.1
      have sg := Grp.mul_signs a b
      have em := Lib.hid (show Grp.mulS a b = if Grp.mayB (a * b) = true then (a * b, 0) else (0, 4) from by unfold Grp.mulS; rw [if_pos ⟨ha, hb⟩])
      have fin : Hid (∀ n : Int, 4611686018427387903 < Grp.sizeI a * Grp.sizeI b → Grp.mulS a b = (0, 4)) := by
        intro n hn
        rw [em.out, if_neg (by rw [Bool.not_eq_true, Grp.mayB_no, ← sg]; split <;> omega)]
      have fin2 : Hid (Grp.sizeI a * Grp.sizeI b ≤ 4611686018427387903 → Grp.mulS a b = ((if (decide (a < 0) != decide (b < 0)) = true then -(Grp.sizeI a * Grp.sizeI b) else Grp.sizeI a * Grp.sizeI b), 0)) := by
        intro hn
        rw [em.out, sg, if_pos (by rw [Grp.mayB_iff, ← sg]; split <;> omega)]
      have e1 : Hid (Grp.sizeI a = if a < 0 then -a else a) := rfl
      have e2 : Hid (Grp.sizeI b = if b < 0 then -b else b) := rfl
      generalize Grp.sizeI a = xa at *
      generalize Grp.sizeI b = xb at *
      have ST := Lib.hid st
      generalize xa * xb = p at *
      clear sg em st
      cases da : decide (a < 0) <;> cases db : decide (b < 0)
      all_goals
        have hna := da
        have hnb := db
        simp only [decide_eq_true_eq, decide_eq_false_iff_not] at hna hnb
        have E1 := e1.out
        have E2 := e2.out
        simp only [hna, hnb, if_true, if_false] at E1 E2
        subst E1 E2
        clear e1 e2
        go_enter Try.func11, Try.ntmps11
        go_wp2_with (go_at_call 18; refine (rmay_any _ _).mono ?_; rintro e w' ⟨rfl, rfl⟩)
        go_loop [7, 8, 9] (fun x y n => ∃ (xv yv nv : Int), x = .int .i64 xv ∧ y = .int .i64 yv ∧ n = .int .i64 nv ∧ Hid (Grp.MulRel p nv xv yv)) (fun _ y _ => (intOf y).toNat)
        case atStart => exact ⟨_, _, _, rfl, rfl, rfl, ST⟩
        case round =>
          obtain ⟨x, y, n, rfl, rfl, rfl, hR⟩ := hrel
          obtain ⟨n0, n1, x0, x1, y0, y1, hz, _⟩ := hR.out
          by_cases hy : 0 < y
          · clear hz
            by_cases hodd : y % 2 = 1
            · have ho : (y % 2 == 1) = true := by simp [hodd]
              have HO := Lib.hid hodd
              clear hodd
              go_wp2_with fail
              all_goals have hodd := HO.out
              all_goals first
                | (go_round
                   case rel => refine ⟨_, _, _, rfl, rfl, rfl, Grp.mulRel_next' p n x y _ _ _ hR.out hy ?_ ?_ rfl⟩ <;> first | omega | (unfold Grp.nextX; (repeat' split) <;> omega)
                   case measure => simp [intOf]; omega)
                | (go_ret2
                   exact ⟨by rw [fin.out n (Grp.mulRel_full p n x y hR.out hy (by omega))]; rfl, rfl⟩)
            · have ho : (y % 2 == 1) = false := by simp; omega
              go_wp2_with fail
              all_goals
                go_round
                case rel => refine ⟨_, _, _, rfl, rfl, rfl, Grp.mulRel_next' p n x y _ _ _ hR.out hy ?_ ?_ rfl⟩ <;> first | omega | (unfold Grp.nextX; (repeat' split) <;> omega)
                case measure => simp [intOf]; omega
          · have hp := hz (by omega)
            have F2 := fin2.out (by omega)
            have HP := Lib.hid hp
            have HF := Lib.hid F2
            clear hz hp F2 fin fin2 ST
            go_wp2_with fail
            go_ret2
            exact ⟨by rw [HF.out, HP.out, da, db]; rfl, rfl⟩

end Go.Proofs.Ytpkbbhdhoibbjaa
