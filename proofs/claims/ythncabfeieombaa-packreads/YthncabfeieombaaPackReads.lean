/- Every call of the law that the values of any bytes, in any form, or why there are none, are as the document says answers true: any form and bytes. No conditions. -/
import Derived.Test.YthncabfeieombaaRows
import Derived.Test.YthncabfeieombaaPackRr
import Derived.WalkKit
import Derived.ProofKit
import Derived.OpenShut
import Derived.ShutString
import Derived.ChangeOld
import Derived.Below
import Derived.SizedLaws
namespace Go.Proofs.Ythncabfeieombaa.packReads
open Go.ChangeShapes Go.WideShapes Go.ChangeAt Go.RowKit
open Go.ChangeMaps (open_string shut_string)
set_option linter.unusedVariables false

theorem own : ownKnob Try.prog.godebug = none := by kernel_rfl
theorem laidOut : laidOutB Try.prog = true := by kernel_rfl

theorem lr_read (s : ByteArray) (hs : s.size ≤ maxLen) (A : Option Addr) (n c : Nat) (l : Pk.Bs) (q : Nat) (m : List Pk.V) (hr : Pk.rres (bs s) l = (q, m)) (k : Nat) (hk : m.length = k) (w : World) (hn : l.length = n) (hnc : n ≤ c) (hc : c ≤ maxLen) (hb : BytesIn w w.heap.size A l) :
    Calls Try.prog 16 #[.string s, .slice A n c] w fun e w' => ∃ A' c', e = .returned (.tuple #[.slice A' k c', .int .i64 (q : Int)]) ∧ k ≤ c' ∧ c' ≤ maxLen ∧ ValsIn w' w'.heap.size A' m ∧ Below w.heap.size w w' := by
  subst hk
  refine (rread_any s A n c l w hs hn hnc hc hb).mono ?_
  rintro e w' ⟨v, rfl, ho, hbl⟩
  rw [hr] at ho ⊢
  obtain ⟨A', c', rfl, h1, h2, h3, _⟩ := ownsRow_slice ho
  exact ⟨A', c', rfl, h1, h2, h3, hbl⟩

theorem rres_len (f b : Pk.Bs) : (Pk.rres f b).2.length ≤ 200 := by
  cases h : Pk.rres f b with
  | mk q m =>
    by_cases hq : q = 0
    · subst hq
      exact (wres_small (Pk.rres_sound _ _ _ h).1).1
    · have := Pk.rres_err f b (by rw [h]; exact hq)
      rw [h] at this
      simp only at this ⊢
      rw [this]
      simp

set_option maxHeartbeats 8000000 in
set_option maxRecDepth 100000 in
theorem walk {w : World} (s : ByteArray) (hs : s.size ≤ maxLen) (B : Option Addr) (m d : Nat) (b : Pk.Bs) (hm : b.length = m) (hmd : m ≤ d) (hd : d ≤ maxLen) (hb : BytesIn w w.heap.size B b) :
    Calls Try.prog 4 #[.string s, .slice B m d] w fun e w' => e = .returned (.bool true) ∧ Below w.heap.size w w' := by
  have HBY := Lib.hid hb
  clear hb
  have hm63 : m ≤ 9223372036854775807 := by have := Nat.le_trans hmd hd; unfold maxLen at this; omega
  have hs63 : s.size ≤ 9223372036854775807 := by unfold maxLen at hs; omega
  have HLN := Lib.hid (rres_len (bs s) b)
  cases hx : Pk.rres (bs s) b with
  | mk q mv =>
    rw [hx] at HLN
    obtain ⟨k2, hk2⟩ : ∃ k, mv.length = k := ⟨_, rfl⟩
    have HK2 := Lib.hid hk2
    have HX := Lib.hid hx
    have h200 : k2 ≤ 200 := by rw [← hk2]; exact HLN.out
    clear hx hk2 HLN
    by_cases hbl : 21000 < m
    · have d0 : decide ((21000 : Int) < (m : Int)) = true := decide_eq_true (by omega)
      clear hbl
      go_enter Try.func4, Try.ntmps4
      go_wp2_with fail
      refine (awake_any w).mono ?_
      rintro e w1 ⟨rfl, hb1⟩
      have HB1 := Lib.hid hb1
      clear hb1
      go_wp2
      go_ret
      exact ⟨rfl, HB1.out⟩
    · have d0 : decide ((21000 : Int) < (m : Int)) = false := decide_eq_false (by omega)
      clear hbl
      by_cases h40 : 40 < s.size
      · have d1 : decide ((40 : Int) < (s.size : Int)) = true := decide_eq_true (by omega)
        clear h40
        go_enter Try.func4, Try.ntmps4
        go_wp2_with fail
        refine (awake_any w).mono ?_
        rintro e w1 ⟨rfl, hb1⟩
        have HB1 := Lib.hid hb1
        clear hb1
        go_wp2
        go_ret
        exact ⟨rfl, HB1.out⟩
      · have d1 : decide ((40 : Int) < (s.size : Int)) = false := decide_eq_false (by omega)
        clear h40
        go_enter Try.func4, Try.ntmps4
        go_wp2_with fail
        refine (awake_any w).mono ?_
        rintro e w1 ⟨rfl, hb1⟩
        have HB1 := Lib.hid hb1
        clear hb1
        go_wp2_with fail
        refine (aw_read s hs B m d b q mv HX.out k2 HK2.out w1 hm hmd hd (HBY.out.on HB1.out)).mono ?_
        rintro e w2 ⟨A2, c2, rfl, h21, h22, hv2, hb2⟩
        have HB2 : Hid (Below w.heap.size w w2) := bel_on HB1.out hb2
        have HV2 := Lib.hid hv2
        clear hv2 hb2
        go_wp2_with fail
        refine (lr_read s hs B m d b q mv HX.out k2 HK2.out w2 hm hmd hd (HBY.out.on HB2.out)).mono ?_
        rintro e w3 ⟨A3, c3, rfl, h31, h32, hv3, hb3⟩
        have HB3 : Hid (Below w.heap.size w w3) := bel_on HB2.out hb3
        have HV3 := Lib.hid hv3
        have HV23 := Lib.hid (CellsIn.on HV2.out hb3)
        clear hv3 hb3
        go_wp2_with fail
        refine (lw_own A2 k2 c2 mv w3 HK2.out (by omega) HV23.out).mono ?_
        rintro e w4 ⟨A4, c4, rfl, h41, h42, hv4, hb4⟩
        have HB4 : Hid (Below w.heap.size w w4) := bel_on HB3.out hb4
        have HV4 := Lib.hid hv4
        have HV34 := Lib.hid (CellsIn.on HV3.out hb4)
        clear hv4 hb4
        go_wp2_with fail
        refine (lw_same A4 A3 k2 k2 c4 c3 mv mv w4 HK2.out HK2.out (Nat.le_trans h41 h42) (Nat.le_trans h31 h32) HV4.out HV34.out).mono ?_
        rintro e w5 ⟨rfl, hb5⟩
        have HB5 : Hid (Below w.heap.size w w5) := bel_on HB4.out hb5
        clear hb5
        rw [decide_eq_true (rfl : mv = mv)]
        go_wp2
        go_ret
        exact ⟨rfl, HB5.out⟩

set_option maxRecDepth 100000 in
theorem lifted (os : Os) (started : os.Started) (H : Type) (enc : TypeId × Value → H) :
    ReturnsInHanded {} Try.checked os 4 .any (Rows.packReadsSpec.pre6 enc Try.prog Try.f4 Rows.packReadsRow.domain false) (Rows.packReadsSpec.post enc Try.prog Try.f4 false true false false) := by
  refine returnsInHanded_of_change_sized (C := Try.checked) own started (by kernel_rfl) Try.func4
    (ChangeSpec.witness6 (enc := enc) (C := Try.checked) false ⟨#[], #[.string ByteArray.empty, .slice none 0 0], []⟩ 8 (by kernel_rfl) (by kernel_rfl) (by kernel_rfl) (by kernel_rfl)) ?_
  intro W base args ds gs before hval0 hW _ hsz0 _
  have hsz : (DataW.weightsEach Try.prog (Try.f4.params.toList ++ Rows.packReadsSpec.plain.varTypes Try.prog) (ds ++ gs)).all (· ≤ reachBytes) = true := hsz0
  have hval : ∀ (j : Nat) t v, Try.f4.params[j]? = some t → args[j]? = some v → Value.okWide Try.prog W .any base t v := hval0
  have hW' := hW
  obtain ⟨p, q, hA0, hV, rfl, hfz, hnd⟩ := hW
  have hA : DataW.TrodAll enc Try.prog W 0 (fun _ => true) true Try.f4.params.toList args.toList ds p := hA0
  rw [Try.params4] at hA hval hsz
  obtain ⟨v0, vs0, d0, ds0, p0, q0, hargs, rfl, rfl, h0, r0⟩ := trodAll_cons hA
  obtain ⟨v1, vs1, d1, ds1, p1, q1, rfl, rfl, rfl, h1, r1⟩ := trodAll_cons r0
  obtain ⟨rfl, rfl, rfl⟩ := trodAll_nil r1
  obtain rfl : args = #[v0, v1] := by cases args; simp_all
  obtain ⟨rfl, rfl⟩ := trodVars_none hV
  obtain ⟨a0, rfl, rfl, rfl, w0⟩ := open_string Try.underlying9 (hval 0 9 v0 rfl rfl) h0
  obtain ⟨a1, len1, cap1, rfl⟩ := okWide_slice Try.underlying25 (hval 1 25 v1 rfl rfl)
  have k1 := h1
  have lt1 : ∀ x ∈ p1, x.block < W.heap.size := by obtain ⟨m, hm⟩ := k1; exact DataW.trod_lt m _ _ _ hm
  obtain ⟨l1, hl1, hlc1, hcm1, hv1⟩ := open_bytes h1
  clear hA0 hval0
  refine (walk a0 w0 a1 len1 cap1 l1 hl1 hlc1 hcm1 hv1).mono fun e W' ⟨he, bel⟩ => ?_
  subst he
  exact ⟨_, rfl, _, _, _, [], _, [], hW', trodAll_mk1 (shut_bool Try.underlying4 _), (trodAll_cons_mk (shut_string Try.underlying9 w0) (trodAll_cons_mk (Below.trod laidOut (by kernel_rfl) (of_decide_eq_true (by kernel_rfl)) k1 bel lt1) trodAll_mk0)), rfl, bel.frame _, fun h => by cases h⟩

theorem over : Rows.packReadsRow.holds Try.pinned (OpenSpec.ofChange Rows.packReadsSpec) :=
  OpenClaim.holds_of_wide 4 Try.f4 rfl rfl rfl rfl rfl rfl rfl ⟨rfl, rfl, rfl, rfl, rfl⟩ rfl rfl rfl rfl rfl (by kernel_rfl) Try.func4 (by kernel_rfl)
    (of_decide_eq_true (by kernel_rfl)) (by unfold Func.isWrapper; first | (rw [if_pos (by decide +kernel)]; kernel_rfl) | (rw [if_neg (by decide +kernel)]; exact ⟨rfl, rfl⟩))
    (fun os started H enc _ => lifted os started H enc)

theorem proved : Rows.PackReadsSaid := over
end Go.Proofs.Ythncabfeieombaa.packReads
