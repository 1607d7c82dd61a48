/- Every call of the law that the bytes of any values, in any form, or why there are none, and the values of a number and of a text, are as the document says answers true: any form, values, number and text. No conditions. -/
import Derived.Test.YthncabfeieombaaRows
import Derived.Test.YthncabfeieombaaPackRw
import Derived.WalkKit
import Derived.ProofKit
import Derived.OpenShut
import Derived.ShutString
import Derived.ChangeOld
import Derived.Below
import Derived.SizedLaws
namespace Go.Proofs.Ythncabfeieombaa.packWrites
open Go.ChangeShapes Go.WideShapes Go.ChangeAt Go.RowKit
open Go.ChangeMaps (open_string shut_string)
set_option linter.unusedVariables false

theorem own : ownKnob Try.prog.godebug = none := by kernel_rfl
theorem laidOut : laidOutB Try.prog = true := by kernel_rfl

theorem lr_write (s : ByteArray) (A : Option Addr) (n c : Nat) (l : List Pk.V) (q : Nat) (b : Pk.Bs) (hr : Pk.wres (bs s) l = (q, b)) (k : Nat) (hk : b.length = k) (w : World) (hs : s.size ≤ maxLen) (hn : l.length = n) (hc : n ≤ 1000)
    (hl : ValsIn w w.heap.size A l) (ht : ∀ v ∈ l, v.2.size ≤ maxLen) :
    Calls Try.prog 10 #[.string s, .slice A n c] w fun e w' => ∃ A' c', e = .returned (.tuple #[.slice A' k c', .int .i64 (q : Int)]) ∧ k ≤ c' ∧ c' ≤ maxLen ∧ BytesIn w' w'.heap.size A' b ∧ Below w.heap.size w w' := by
  subst hk
  refine (rwrite_any s A n c l w hs hn hc hl ht).mono ?_
  rintro e w' ⟨v, rfl, ho, hbl⟩
  rw [hr] at ho ⊢
  obtain ⟨A', c', rfl, h1, h2, h3, _⟩ := ownsRow_slice ho
  exact ⟨A', c', rfl, h1, h2, h3, hbl⟩

set_option maxHeartbeats 8000000 in
set_option maxRecDepth 100000 in
theorem walk {w : World} (s : ByteArray) (hs : s.size ≤ maxLen) (A : Option Addr) (n c : Nat) (l : List Pk.V) (hn : l.length = n) (hnc : n ≤ c) (hc : c ≤ maxLen) (hv : ValsIn w w.heap.size A l) (ht : ∀ v ∈ l, v.2.size ≤ 140737488355328)
    (x : Int) (hx : (Lit.int .i64 x).wf = true) (t : ByteArray) (htt : t.size ≤ maxLen) :
    Calls Try.prog 3 #[.string s, .slice A n c, .int .i64 x, .string t] w fun e w' => e = .returned (.bool true) ∧ Below w.heap.size w w' := by
  have HV := Lib.hid hv
  have HT := Lib.hid ht
  have HTM : Hid (∀ v ∈ l, v.2.size ≤ maxLen) := fun v hv => by have := ht v hv; unfold maxLen; omega
  clear hv ht hx htt
  cases hx1 : Pk.wres (bs s) l with
  | mk q cb =>
    obtain ⟨kb, hkb⟩ : ∃ k, cb.length = k := ⟨_, rfl⟩
    have HKB := Lib.hid hkb
    have HX1 := Lib.hid hx1
    have heq1 := eq_val34 (x, ⟨#[]⟩) (x, ⟨#[]⟩)
    have heq2 := eq_val34 (0, t) (0, t)
    rw [decide_eq_true rfl] at heq1 heq2
    simp only at heq1 heq2
    clear hx1 hkb
    go_enter Try.func3, Try.ntmps3
    go_wp2_with fail
    refine (awake_any w).mono ?_
    rintro e w1 ⟨rfl, hb1⟩
    have HB1 := Lib.hid hb1
    clear hb1
    go_wp2_with fail
    refine (large_any s A n c l w1 hs hn (Nat.le_trans hnc hc) (HV.out.on HB1.out) HT.out).mono ?_
    rintro e w2 ⟨big, rfl, rfl, hbig⟩
    cases big with
    | true =>
      go_wp2
      go_ret
      exact ⟨rfl, HB1.out⟩
    | false =>
      have h300 := (hbig rfl).1
      clear hbig
      go_wp2_with fail
      refine (lw_write s A n c l q cb HX1.out kb HKB.out w1 hs hn (Nat.le_trans hnc hc) (HV.out.on HB1.out) HTM.out).mono ?_
      rintro e w3 ⟨A3, c3, rfl, h31, h32, hy3, hb3⟩
      have HB3 : Hid (Below w.heap.size w w3) := bel_on HB1.out hb3
      have HY3 := Lib.hid hy3
      clear hy3 hb3
      go_wp2_with fail
      refine (lw_own A n c l w3 hn (by omega) (HV.out.on HB3.out)).mono ?_
      rintro e w4 ⟨A4, c4, rfl, h41, h42, hv4, hb4⟩
      have HB4 : Hid (Below w.heap.size w w4) := bel_on HB3.out hb4
      have HV4 := Lib.hid hv4
      have HY4 := Lib.hid (CellsIn.on HY3.out hb4)
      clear hv4 hb4
      go_wp2_with fail
      refine (lr_write s A4 n c4 l q cb HX1.out kb HKB.out w4 hs hn (by omega) HV4.out HTM.out).mono ?_
      rintro e w5 ⟨A5, c5, rfl, h51, h52, hy5, hb5⟩
      have HB5 : Hid (Below w.heap.size w w5) := bel_on HB4.out hb5
      have HY5 := Lib.hid hy5
      have HY45 := Lib.hid (CellsIn.on HY4.out hb5)
      clear hy5 hb5
      go_wp2_with fail
      refine (lw_bytes A3 A5 kb kb c3 c5 cb cb w5 HKB.out HKB.out (Nat.le_trans h31 h32) (Nat.le_trans h31 h32) HY45.out HY5.out).mono ?_
      rintro e w6 ⟨rfl, hb6⟩
      have HB6 : Hid (Below w.heap.size w w6) := bel_on HB5.out hb6
      clear hb6
      rw [decide_eq_true (rfl : cb = cb)]
      go_wp2_with (first
        | (go_at_call 13; refine (num_any _ _).mono ?_; rintro e w7 ⟨rfl, hg7⟩; have HG7 := Lib.hid hg7; clear hg7)
        | (go_at_call 14; refine (txt_any _ _).mono ?_; rintro e w8 ⟨rfl, hg8⟩; have HG8 := Lib.hid hg8; clear hg8))
      go_ret
      refine ⟨rfl, ?_⟩
      have h7 : Below w.heap.size w w7 := HB6.out.grown HG7.out HB6.out.size (fun k e => by cases e)
      exact h7.grown HG8.out h7.size (fun k e => by cases e)

set_option maxRecDepth 100000 in
theorem lifted (os : Os) (started : os.Started) (H : Type) (enc : TypeId × Value → H) :
    ReturnsInHanded {} Try.checked os 3 .any (Rows.packWritesSpec.pre6 enc Try.prog Try.f3 Rows.packWritesRow.domain false) (Rows.packWritesSpec.post enc Try.prog Try.f3 false true false false) := by
  refine returnsInHanded_of_change_sized (C := Try.checked) own started (by kernel_rfl) Try.func3
    (ChangeSpec.witness6 (enc := enc) (C := Try.checked) false ⟨#[], #[.string ByteArray.empty, .slice none 0 0, .int .i64 0, .string ByteArray.empty], []⟩ 8 (by kernel_rfl) (by kernel_rfl) (by kernel_rfl) (by kernel_rfl)) ?_
  intro W base args ds gs before hval0 hW _ hsz0 _
  have hsz : (DataW.weightsEach Try.prog (Try.f3.params.toList ++ Rows.packWritesSpec.plain.varTypes Try.prog) (ds ++ gs)).all (· ≤ reachBytes) = true := hsz0
  have hval : ∀ (j : Nat) t v, Try.f3.params[j]? = some t → args[j]? = some v → Value.okWide Try.prog W .any base t v := hval0
  have hW' := hW
  obtain ⟨p, q, hA0, hV, rfl, hfz, hnd⟩ := hW
  have hA : DataW.TrodAll enc Try.prog W 0 (fun _ => true) true Try.f3.params.toList args.toList ds p := hA0
  rw [Try.params3] at hA hval hsz
  obtain ⟨v0, vs0, d0, ds0, p0, q0, hargs, rfl, rfl, h0, r0⟩ := trodAll_cons hA
  obtain ⟨v1, vs1, d1, ds1, p1, q1, rfl, rfl, rfl, h1, r1⟩ := trodAll_cons r0
  obtain ⟨v2, vs2, d2, ds2, p2, q2, rfl, rfl, rfl, h2, r2⟩ := trodAll_cons r1
  obtain ⟨v3, vs3, d3, ds3, p3, q3, rfl, rfl, rfl, h3, r3⟩ := trodAll_cons r2
  obtain ⟨rfl, rfl, rfl⟩ := trodAll_nil r3
  obtain rfl : args = #[v0, v1, v2, v3] := by cases args; simp_all
  obtain ⟨rfl, rfl⟩ := trodVars_none hV
  obtain ⟨a0, rfl, rfl, rfl, w0⟩ := open_string Try.underlying9 (hval 0 9 v0 rfl rfl) h0
  obtain ⟨a1, len1, cap1, rfl⟩ := okWide_slice Try.underlying22 (hval 1 22 v1 rfl rfl)
  have k1 := h1
  have lt1 : ∀ x ∈ p1, x.block < W.heap.size := by obtain ⟨m, hm⟩ := k1; exact DataW.trod_lt m _ _ _ hm
  obtain ⟨l1, hl1, hlc1, hcm1, hv1, _, hw1⟩ := open_vals h1
  have hs1 : ∀ v ∈ l1, v.2.size ≤ 140737488355328 := fun v hv => by
    have := List.all_eq_true.1 hsz _ (DataW.weights_mem_each (j := 1) (t := 22) (d := d1) rfl rfl v.2.size (hw1 v hv))
    have h2 : v.2.size ≤ reachBytes := by simpa using this
    have h3 := reachBytes_lt
    omega
  obtain ⟨a2, rfl, rfl, rfl, w2⟩ := open_int Try.underlying2 (hval 2 2 v2 rfl rfl) h2
  obtain ⟨a3, rfl, rfl, rfl, w3⟩ := open_string Try.underlying9 (hval 3 9 v3 rfl rfl) h3
  clear hA0 hval0
  refine (walk a0 w0 a1 len1 cap1 l1 hl1 hlc1 hcm1 hv1 hs1 a2 w2 a3 w3).mono fun e W' ⟨he, bel⟩ => ?_
  subst he
  exact ⟨_, rfl, _, _, _, [], _, [], hW', trodAll_mk1 (shut_bool Try.underlying4 _), (trodAll_cons_mk (shut_string Try.underlying9 w0) (trodAll_cons_mk (Below.trod laidOut (by kernel_rfl) (of_decide_eq_true (by kernel_rfl)) k1 bel lt1) (trodAll_cons_mk (shut_int Try.underlying2 w2) (trodAll_cons_mk (shut_string Try.underlying9 w3) trodAll_mk0)))), rfl, bel.frame _, fun h => by cases h⟩

theorem over : Rows.packWritesRow.holds Try.pinned (OpenSpec.ofChange Rows.packWritesSpec) :=
  OpenClaim.holds_of_wide 3 Try.f3 rfl rfl rfl rfl rfl rfl rfl ⟨rfl, rfl, rfl, rfl, rfl⟩ rfl rfl rfl rfl rfl (by kernel_rfl) Try.func3 (by kernel_rfl)
    (of_decide_eq_true (by kernel_rfl)) (by unfold Func.isWrapper; first | (rw [if_pos (by decide +kernel)]; kernel_rfl) | (rw [if_neg (by decide +kernel)]; exact ⟨rfl, rfl⟩))
    (fun os started H enc _ => lifted os started H enc)

theorem proved : Rows.PackWritesSaid := over
end Go.Proofs.Ythncabfeieombaa.packWrites
