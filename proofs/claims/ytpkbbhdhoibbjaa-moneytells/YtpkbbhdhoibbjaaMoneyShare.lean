/- Contracts of money.Share and money.Sum, for every argument. -/
import Derived.Test.YtpkbbhdhoibbjaaMoneyWalks
import Derived.Lib.Hide
namespace Go.Proofs.Ytpkbbhdhoibbjaa
open Go.RowKit

set_option maxHeartbeats 400000 in
theorem share_no (t p a : Int) (w : World) (h : Grp.shOk t p a = false) :
    Calls Try.prog 14 #[.int .i64 t, .int .i64 p, .int .i64 a] w fun e w' => e = .returned (.tuple #[.int .i64 0, .int .i64 0, .int .i64 1]) ∧ w = w' := by
  unfold Grp.shOk at h
  cases h1 : Grp.mayB t
  · clear h
    go_enter Try.func14, Try.ntmps14
    go_wp2_with (go_at_call 16; refine (mayBe_any _ _).mono ?_; rintro e w' ⟨rfl, rfl⟩)
    go_ret3
    exact ⟨rfl, rfl⟩
  · cases h2 : Grp.mayB a
    · clear h
      go_enter Try.func14, Try.ntmps14
      go_wp2_with (go_at_call 16; refine (mayBe_any _ _).mono ?_; rintro e w' ⟨rfl, rfl⟩)
      go_ret3
      exact ⟨rfl, rfl⟩
    · rw [h1, h2] at h
      by_cases h3 : t < 0
      · clear h
        go_enter Try.func14, Try.ntmps14
        go_wp2_with (go_at_call 16; refine (mayBe_any _ _).mono ?_; rintro e w' ⟨rfl, rfl⟩)
        go_ret3
        exact ⟨rfl, rfl⟩
      · by_cases h4 : a < 1
        · clear h
          go_enter Try.func14, Try.ntmps14
          go_wp2_with (go_at_call 16; refine (mayBe_any _ _).mono ?_; rintro e w' ⟨rfl, rfl⟩)
          go_ret3
          exact ⟨rfl, rfl⟩
        · by_cases h5 : p < 0
          · clear h
            go_enter Try.func14, Try.ntmps14
            go_wp2_with (go_at_call 16; refine (mayBe_any _ _).mono ?_; rintro e w' ⟨rfl, rfl⟩)
            go_ret3
            exact ⟨rfl, rfl⟩
          · have h6 : a < p := by simp at h; omega
            clear h
            go_enter Try.func14, Try.ntmps14
            go_wp2_with (go_at_call 16; refine (mayBe_any _ _).mono ?_; rintro e w' ⟨rfl, rfl⟩)
            go_ret3
            exact ⟨rfl, rfl⟩

theorem and_one_i64 (E : Int) (h0 : 0 ≤ E) (h1 : E ≤ 9223372036854775807) : bits BinOp.and IntKind.i64 E 1 = E % 2 := by
  have two63 : (2 : Int) ^ 63 = 9223372036854775808 := by decide
  have h := bits_mask .i64 63 (by decide) (fun n h0 h1 => by rw [two63] at h1; rw [IntKind.wrap_i64]; omega) 1 (by decide) E h0 (by rw [two63]; omega)
  have e : ((2 : Int) ^ 1 - 1) = 1 := by decide
  rw [e] at h
  rw [h]
  omega

set_option maxHeartbeats 1000000 in
theorem share_yes (t p a : Int) (w : World) (h : Grp.shOk t p a = true) :
    Calls Try.prog 14 #[.int .i64 t, .int .i64 p, .int .i64 a] w fun e w' => e = .returned (.tuple #[.int .i64 (t * p / a), .int .i64 (t * p % a), .int .i64 0]) ∧ w = w' := by
  obtain ⟨t1, t2, a1, a2, p1, p2⟩ := (Grp.shOk_iff t p a).1 h
  have hmt : Grp.mayB t = true := by rw [Grp.mayB_iff]; omega
  have hma : Grp.mayB a = true := by rw [Grp.mayB_iff]; omega
  clear h
  go_enter Try.func14, Try.ntmps14
  go_wp2_with (go_at_call 16; refine (mayBe_any _ _).mono ?_; rintro e w' ⟨rfl, rfl⟩)
  clear hmt hma
  go_loop [9, 10, 39] (fun s l i => ∃ (k : Nat) (n r : Int), k ≤ 62 ∧ i = .int .i64 k ∧ s = .int .i64 n ∧ l = .int .i64 r ∧ Grp.ShRel t p a (62 - k) n r) (fun _ _ i => 62 - (intOf i).toNat)
  case atStart => exact ⟨0, 0, 0, by omega, rfl, rfl, rfl, Grp.sh_start t p a t1 t2 a1⟩
  case round =>
    obtain ⟨k, n, r, hk, rfl, rfl, rfl, hR⟩ := hrel
    have hR' := hR
    obtain ⟨n1, n2, r1, r2, _⟩ := hR'
    by_cases hlt : k < 62
    · have E := Lib.hid hR
      have nn : n + n ≤ 4611686018427387903 := by
        have := Grp.half_pow t k hlt
        have := Grp.le_pow t (61 - k) t1
        omega
      have hb := Grp.le_pow t (61 - k) t1
      have hbit := and_one_i64 (t / 2 ^ (61 - k)) hb.1 (by omega)
      have nx := fun bit n' r' hb e => Grp.sh_next t p a n r k hlt t1 a1 p1 p2 E.out bit n' r' hb e
      have NX := Lib.hid nx
      clear n2 nx hR
      by_cases h0 : t / 2 ^ (61 - k) % 2 = 1
      · have hbt : (bits BinOp.and IntKind.i64 (t / 2 ^ (61 - k)) 1 == 1) = true := by rw [hbit, h0]; rfl
        have H0 := Lib.hid h0
        clear hbit h0 hb
        by_cases h1 : r + r < a
        · by_cases h2 : r + r + p < a
          · have hs := NX.out 1 (n + n + 0 + 0) (r + r + p) H0.out.symm (by simp only [Grp.shStep, if_pos h1, if_pos h2]; rfl)
            have HS := Lib.hid hs
            clear hs
            go_wp2_with (go_at_call 20; refine (takeOut_any _ _ _ (by omega) (by omega) (by omega)).mono ?_; rintro e w' ⟨rfl, rfl⟩)
            go_round
            case rel => exact ⟨k + 1, _, _, by omega, by go_num, rfl, rfl, by simpa using HS.out⟩
            case measure => simp [intOf]; omega
          · have hs := NX.out 1 (n + n + 0 + 1) (r + r + p - a) H0.out.symm (by simp only [Grp.shStep, if_pos h1, if_neg h2]; rfl)
            have HS := Lib.hid hs
            clear hs
            go_wp2_with (go_at_call 20; refine (takeOut_any _ _ _ (by omega) (by omega) (by omega)).mono ?_; rintro e w' ⟨rfl, rfl⟩)
            go_round
            case rel => exact ⟨k + 1, _, _, by omega, by go_num, rfl, rfl, by simpa using HS.out⟩
            case measure => simp [intOf]; omega
        · by_cases h2 : r + r - a + p < a
          · have hs := NX.out 1 (n + n + 1 + 0) (r + r - a + p) H0.out.symm (by simp only [Grp.shStep, if_neg h1, if_pos h2]; rfl)
            have HS := Lib.hid hs
            clear hs
            go_wp2_with (go_at_call 20; refine (takeOut_any _ _ _ (by omega) (by omega) (by omega)).mono ?_; rintro e w' ⟨rfl, rfl⟩)
            go_round
            case rel => exact ⟨k + 1, _, _, by omega, by go_num, rfl, rfl, by simpa using HS.out⟩
            case measure => simp [intOf]; omega
          · have hs := NX.out 1 (n + n + 1 + 1) (r + r - a + p - a) H0.out.symm (by simp only [Grp.shStep, if_neg h1, if_neg h2]; rfl)
            have HS := Lib.hid hs
            clear hs
            go_wp2_with (go_at_call 20; refine (takeOut_any _ _ _ (by omega) (by omega) (by omega)).mono ?_; rintro e w' ⟨rfl, rfl⟩)
            go_round
            case rel => exact ⟨k + 1, _, _, by omega, by go_num, rfl, rfl, by simpa using HS.out⟩
            case measure => simp [intOf]; omega
      · have h0' : (0 : Int) = t / 2 ^ (61 - k) % 2 := by omega
        have hbt : (bits BinOp.and IntKind.i64 (t / 2 ^ (61 - k)) 1 == 1) = false := by rw [hbit, ← h0']; rfl
        have H0 := Lib.hid h0'
        clear hbit h0 h0' hb
        by_cases h1 : r + r < a
        · have hs := NX.out 0 (n + n + 0) (r + r) H0.out (by simp only [Grp.shStep, if_pos h1]; rfl)
          have HS := Lib.hid hs
          clear hs
          go_wp2_with (go_at_call 20; refine (takeOut_any _ _ _ (by omega) (by omega) (by omega)).mono ?_; rintro e w' ⟨rfl, rfl⟩)
          go_round
          case rel => exact ⟨k + 1, _, _, by omega, by go_num, rfl, rfl, by simpa using HS.out⟩
          case measure => simp [intOf]; omega
        · have hs := NX.out 0 (n + n + 1) (r + r - a) H0.out (by simp only [Grp.shStep, if_neg h1]; rfl)
          have HS := Lib.hid hs
          clear hs
          go_wp2_with (go_at_call 20; refine (takeOut_any _ _ _ (by omega) (by omega) (by omega)).mono ?_; rintro e w' ⟨rfl, rfl⟩)
          go_round
          case rel => exact ⟨k + 1, _, _, by omega, by go_num, rfl, rfl, by simpa using HS.out⟩
          case measure => simp [intOf]; omega
    · obtain rfl : k = 62 := by omega
      have hf : n * a + r = t * p := by have := hR.2.2.2.2; simpa using this
      have he := Grp.share_eq t p a n r a1 r1 r2 hf
      have HE := Lib.hid he
      clear he hf hR n2 hlt
      go_wp2
      go_ret3
      exact ⟨by rw [← HE.out.1, ← HE.out.2]; rfl, rfl⟩

theorem share_any (t p a : Int) (w : World) :
    Calls Try.prog 14 #[.int .i64 t, .int .i64 p, .int .i64 a] w fun e w' => e = .returned (.tuple #[.int .i64 (Grp.shareS t p a).1, .int .i64 (Grp.shareS t p a).2.1, .int .i64 (Grp.shareS t p a).2.2]) ∧ w = w' := by
  cases h : Grp.shOk t p a
  · have e : Grp.shareS t p a = (0, 0, 1) := by unfold Grp.shareS; rw [h]; rfl
    rw [e]; exact share_no t p a w h
  · have e : Grp.shareS t p a = (t * p / a, t * p % a, 0) := by unfold Grp.shareS; rw [h]; rfl
    rw [e]; exact share_yes t p a w h

/-- The cells of a slice of numbers: 'zs', from the address on. -/
def IntsAt (w : World) (kd : IntKind) (A : Option Addr) (zs : List Int) : Prop :=
  ∀ k z, zs[k]? = some z → ∃ ad, A = some ad ∧ w.cell? (ad.add k) = some (.int kd z)

theorem list_at {α : Type} (l : List α) (k : Nat) (h : k < l.length) : ∃ x, l[k]? = some x := ⟨l[k], List.getElem?_eq_getElem h⟩

set_option maxHeartbeats 1000000 in
theorem sum_any (A : Option Addr) (c : Nat) (zs : List Int) (w : World) (hl : zs.length ≤ maxLen) (hc : IntsAt w .i64 A zs) :
    Calls Try.prog 12 #[.slice A zs.length c] w fun e w' => e = .returned (.tuple #[.int .i64 (Grp.sumS zs).1, .int .i64 (Grp.sumS zs).2]) ∧ w = w' := by
  unfold maxLen at hl
  have HC := Lib.hid hc
  clear hc
  go_enter Try.func12, Try.ntmps12
  go_wp2_with fail
  go_loop [13] (fun i => ∃ k : Nat, k ≤ zs.length ∧ i = .int .i64 k ∧ Hid ((zs.take k).all Grp.mayB = true)) (fun i => zs.length - (intOf i).toNat)
  case atStart => exact ⟨0, by omega, rfl, rfl⟩
  case round =>
    obtain ⟨k, hk, rfl, hall⟩ := hrel
    by_cases hlt : k < zs.length
    · obtain ⟨z, hz⟩ := list_at zs k hlt
      obtain ⟨ad, rfl, hcell⟩ := HC.out k z hz
      have HZ := Lib.hid hz
      clear hz
      cases hm : Grp.mayB z
      · go_wp2_with (go_at_call 16; refine (mayBe_any _ _).mono ?_; rintro e w' ⟨rfl, rfl⟩)
        go_ret2
        exact ⟨by rw [show Grp.sumS zs = (0, 1) from by unfold Grp.sumS; rw [Grp.all_false zs k z HZ.out hm]; rfl]; rfl, rfl⟩
      · go_wp2_with (go_at_call 16; refine (mayBe_any _ _).mono ?_; rintro e w' ⟨rfl, rfl⟩)
        go_round
        case rel => exact ⟨k + 1, by omega, by go_num, by show _ = _; rw [Grp.all_take zs k z HZ.out hall.out]; exact hm⟩
        case measure => simp [intOf]; omega
    · obtain rfl : k = zs.length := by omega
      have hall' : Hid (zs.all Grp.mayB = true) := by have := hall.out; rw [List.take_length] at this; exact this
      clear hall hlt
      go_wp2_with fail
      go_loop [6, 23] (fun s i => ∃ (k : Nat) (n : Int), k ≤ zs.length ∧ i = .int .i64 k ∧ s = .int .i64 n ∧ -4611686018427387903 ≤ n ∧ n ≤ 4611686018427387903 ∧ Hid (Grp.sumFrom 0 zs = Grp.sumFrom n (zs.drop k))) (fun _ i => zs.length - (intOf i).toNat)
      case atStart => exact ⟨0, 0, by omega, rfl, rfl, by omega, by omega, rfl⟩
      case round =>
        obtain ⟨k, n, hk, rfl, rfl, n1, n2, hs⟩ := hrel
        have es : Hid (Grp.sumS zs = Grp.sumFrom 0 zs) := by show _ = _; unfold Grp.sumS; rw [hall'.out]; rfl
        by_cases hlt : k < zs.length
        · obtain ⟨z, hz⟩ := list_at zs k hlt
          obtain ⟨ad, rfl, hcell⟩ := HC.out k z hz
          have hmz := Grp.all_at zs k z hz hall'.out
          have hmn : Grp.mayB n = true := (Grp.mayB_iff n).2 ⟨n1, n2⟩
          have hst := Grp.sumFrom_step n zs k z hz
          clear hz
          cases hm : Grp.mayB (n + z)
          · rw [hm] at hst
            have HST := Lib.hid hst
            have hadd := Grp.addS_full n z hmn hmz hm
            clear hst hm hmn hmz
            go_wp2_with (go_at_call 8; refine (add_any _ _ _).mono ?_; rintro e w' ⟨rfl, rfl⟩)
            go_ret2
            exact ⟨by rw [es.out, hs.out, HST.out]; rfl, rfl⟩
          · rw [hm] at hst
            have HST := Lib.hid hst
            have hadd := Grp.addS_yes n z hmn hmz hm
            have hb := (Grp.mayB_iff _).1 hm
            obtain ⟨b1, b2⟩ := hb
            clear hst hm hmn hmz
            go_wp2_with (go_at_call 8; refine (add_any _ _ _).mono ?_; rintro e w' ⟨rfl, rfl⟩)
            go_round
            case rel => exact ⟨k + 1, n + z, by omega, by go_num, rfl, b1, b2, by show _ = _; rw [hs.out, HST.out]; rfl⟩
            case measure => simp [intOf]; omega
        · go_wp2_with fail
          go_ret2
          exact ⟨by rw [es.out, hs.out, Grp.sumFrom_end n zs k (by omega)]; rfl, rfl⟩

end Go.Proofs.Ytpkbbhdhoibbjaa
