/- Every call of the law on sums of parts, one behind the other, answers true: for every sum, all bytes and every place. No conditions. -/
import Derived.Test.YtljlipdpbflffaaCrcHeld
import Derived.Deep.RegionHeld3
import Derived.Test.YtljlipdpbflffaaRows
import Derived.WalkKit
import Derived.ProofKit
import Derived.OpenShut
import Derived.ShutString
import Derived.ChangeOld
import Derived.Below
namespace Go.Proofs.Ytljlipdpbflffaa.crcParts
open Go.ChangeShapes Go.WideShapes Go.ChangeAt Go.RowKit
open Go.ChangeMaps (open_string shut_string)
set_option linter.unusedVariables false

theorem own : ownKnob Try.prog.godebug = none := by kernel_rfl
theorem laidOut : laidOutB Try.prog = true := by kernel_rfl

/-- WHAT THE WALK IS TOLD OF A SLICE OF INTEGERS THAT CAME IN: it is nil; or it leads to a row of 'cap' cells, the numbers 'zs' (the first 'len' are its elements, the rest its spare room), each fitting its kind. -/
def IsRow (k : IntKind) (w : World) (a : Option Addr) (len cap : Nat) (zs : List Int) : Prop :=
  (a = none ∧ len = 0 ∧ cap = 0 ∧ zs = []) ∨
  ∃ x, a = some x ∧ len ≤ cap ∧ cap ≤ maxLen ∧ zs.length = cap ∧ (∀ i, i < zs.length → w.cell? (x.add i) = some (.int k (zs.getD i 0))) ∧ ∀ n ∈ zs, (Lit.int k n).wf = true

set_option maxHeartbeats 4000000 in
set_option maxRecDepth 100000 in
theorem walkIn (s : Nat) (ad : Addr) (cap k : Nat) (l : List Nat) (w : World) (hs : s < 4294967296) (hl : l.length ≤ 2000) (hlc : l.length ≤ cap) (hcm : cap ≤ maxLen) (hk : k ≤ l.length) (hkc : k < cap) (hb : BytesAt w (some ad) l) :
    Calls Try.prog 4 #[.int .u32 s, .slice (some ad) l.length cap, .int .i64 k] w fun e w' => e = .returned (.bool true) ∧ Below w.heap.size w w' := by
  have HL := Lib.hid (bytesAt_lt hb)
  have HH := Lib.hid (HeldB.start hb)
  have hp1 := Crc.more_parts s (l.take k) (l.drop k) hs (take_lt HL.out k)
  have hp2 := Crc.more_parts 0 (l.take k) (l.drop k) (by omega) (take_lt HL.out k)
  rw [List.take_append_drop] at hp1 hp2
  have hk0 : (0 : Int) ≤ (k : Int) := by omega
  have hk1 : (k : Int) ≤ (l.length : Int) := by omega
  have hk2 : (k : Int) ≤ (cap : Int) := by omega
  have hne : ¬ cap = k := by omega
  have HT := Lib.hid (show (l.take k).length = k by rw [List.length_take]; omega)
  have HD := Lib.hid (show (l.drop k).length = l.length - k by rw [List.length_drop])
  have P1 := Lib.hid (piece_take (some ad) l k)
  have P2 := Lib.hid (piece_drop ad l k)
  have P3 := Lib.hid (piece_all (some ad) l)
  have q1 := Crc.more_lt s (l.take k)
  have q2 := Crc.more_lt 0 (l.take k)
  unfold maxLen at hcm
  clear hb
  go_enter Try.func4, Try.ntmps4
  go_wp2_with (go_at_call 6; refine (awake_held (some ad) l w _ HH.out).mono ?_; rintro e w1 ⟨rfl, hh1⟩)
  go_region_held3 (fun W => HeldB w (some ad) l W) (first | exact hh1.drew | assumption)
    (first
      | (go_at_call 10; ((with_reducible refine (more_held _ _ _ _ _ l (l.take k) w _ (by assumption) HT.out (by omega) P1.out (by assumption)).mono ?_)); rintro e w2 ⟨rfl, hh2⟩)
      | (go_at_call 10; ((with_reducible refine (more_held _ _ _ _ _ l (l.drop k) w _ (by assumption) HD.out (by omega) P2.out (by assumption)).mono ?_)); rintro e w2 ⟨rfl, hh2⟩)
      | (go_at_call 10; ((with_reducible refine (more_held _ _ _ _ _ l l w _ (by assumption) rfl (by omega) P3.out (by assumption)).mono ?_)); rintro e w2 ⟨rfl, hh2⟩)
      | (go_at_call 8; ((with_reducible refine (sum_held _ _ _ _ l (l.take k) w _ HT.out (by omega) P1.out (by assumption)).mono ?_)); rintro e w2 ⟨rfl, hh2⟩)
      | (go_at_call 8; ((with_reducible refine (sum_held _ _ _ _ l l w _ rfl (by omega) P3.out (by assumption)).mono ?_)); rintro e w2 ⟨rfl, hh2⟩))
  go_wp2
  go_ret
  exact ⟨rfl, hh2.1⟩

set_option maxHeartbeats 4000000 in
set_option maxRecDepth 100000 in
/-- parted behind the last byte: nothing is left -/
theorem walk_end (s : Nat) (A : Option Addr) (l : List Nat) (w : World) (hs : s < 4294967296) (hl : l.length ≤ 2000) (hA : A = none → l = []) (hb : BytesAt w A l) :
    Calls Try.prog 4 #[.int .u32 s, .slice A l.length l.length, .int .i64 (l.length : Nat)] w fun e w' => e = .returned (.bool true) ∧ Below w.heap.size w w' := by
  have HL := Lib.hid (bytesAt_lt hb)
  have HH := Lib.hid (HeldB.start hb)
  have hp1 := Crc.more_parts s l [] hs HL.out
  have hp2 := Crc.more_parts 0 l [] (by omega) HL.out
  rw [List.append_nil] at hp1 hp2
  have P2 := Lib.hid (piece_nil A A l)
  have P3 := Lib.hid (piece_all A l)
  have q1 := Crc.more_lt s l
  have q2 := Crc.more_lt 0 l
  have N0 := Lib.hid (show ([] : List Nat).length = 0 from rfl)
  clear hb
  cases A with
  | none =>
    obtain rfl := hA rfl
    clear hA
    go_enter Try.func4, Try.ntmps4
    go_wp2_with (go_at_call 6; refine (awake_held none [] w _ HH.out).mono ?_; rintro e w1 ⟨rfl, hh1⟩)
    go_region_held3 (fun W => HeldB w none [] W) (first | exact hh1.drew | assumption)
      (first
        | (go_at_call 10; ((with_reducible refine (more_held _ _ _ _ _ [] [] w _ (by assumption) N0.out (by omega) P3.out (by assumption)).mono ?_)); rintro e w2 ⟨rfl, hh2⟩)
        | (go_at_call 8; ((with_reducible refine (sum_held _ _ _ _ [] [] w _ N0.out (by omega) P3.out (by assumption)).mono ?_)); rintro e w2 ⟨rfl, hh2⟩))
    go_wp2
    go_ret
    exact ⟨rfl, hh2.1⟩
  | some ad =>
    clear hA
    have hk0 : (0 : Int) ≤ (l.length : Int) := by omega
    go_enter Try.func4, Try.ntmps4
    go_wp2_with (go_at_call 6; refine (awake_held (some ad) l w _ HH.out).mono ?_; rintro e w1 ⟨rfl, hh1⟩)
    go_region_held3 (fun W => HeldB w (some ad) l W) (first | exact hh1.drew | assumption)
      (first
        | (go_at_call 10; ((with_reducible refine (more_held _ _ _ _ _ l [] w _ (by assumption) N0.out (by omega) P2.out (by assumption)).mono ?_)); rintro e w2 ⟨rfl, hh2⟩)
        | (go_at_call 10; ((with_reducible refine (more_held _ _ _ _ _ l l w _ (by assumption) rfl (by omega) P3.out (by assumption)).mono ?_)); rintro e w2 ⟨rfl, hh2⟩)
        | (go_at_call 8; ((with_reducible refine (sum_held _ _ _ _ l l w _ rfl (by omega) P3.out (by assumption)).mono ?_)); rintro e w2 ⟨rfl, hh2⟩))
    go_wp2
    go_ret
    exact ⟨rfl, hh2.1⟩

set_option maxHeartbeats 1000000 in
theorem walk_out (a0 : Int) (A : Option Addr) (n c : Nat) (a2 : Int) (w : World) (hn : n ≤ maxLen) (h : 2000 < n ∨ (a2 < 0 ∨ (n : Int) < a2)) :
    Calls Try.prog 4 #[.int .u32 a0, .slice A n c, .int .i64 a2] w fun e w' => e = .returned (.bool true) ∧ Below w.heap.size w w' := by
  unfold maxLen at hn
  by_cases h1 : 2000 < n
  · have d1 : decide ((2000 : Int) < (n : Int)) = true := decide_eq_true (by omega)
    go_enter Try.func4, Try.ntmps4
    go_wp2_with (go_at_call 6; refine (awake_any _).mono ?_; rintro e w1 ⟨rfl, hb1⟩)
    go_ret
    exact ⟨rfl, hb1⟩
  · have d1 : decide ((2000 : Int) < (n : Int)) = false := decide_eq_false (by omega)
    by_cases h2 : a2 < 0
    · have d2 : decide (a2 < 0) = true := decide_eq_true h2
      go_enter Try.func4, Try.ntmps4
      go_wp2_with (go_at_call 6; refine (awake_any _).mono ?_; rintro e w1 ⟨rfl, hb1⟩)
      go_ret
      exact ⟨rfl, hb1⟩
    · have d2 : decide (a2 < 0) = false := decide_eq_false h2
      have d3 : decide ((n : Int) < a2) = true := decide_eq_true (by omega)
      go_enter Try.func4, Try.ntmps4
      go_wp2_with (go_at_call 6; refine (awake_any _).mono ?_; rintro e w1 ⟨rfl, hb1⟩)
      go_ret
      exact ⟨rfl, hb1⟩

theorem walk (a0 : Int) (a1 : Option Addr) (len1 cap1 : Nat) (z1 : List Int) (a2 : Int) (w : World) (w0 : (Lit.int .u32 a0).wf = true) (w1 : IsRow .u8 w a1 len1 cap1 z1) (w2 : (Lit.int .i64 a2).wf = true) :
    Calls Try.prog 4 #[.int .u32 a0, .slice a1 len1 cap1, .int .i64 a2] w fun e w' => e = .returned (.bool true) ∧ Below w.heap.size w w' := by
  obtain ⟨l, hlen, hlc, hcm, hb, hnone⟩ := bytes_of w a1 len1 cap1 z1 w1
  obtain ⟨s, hs, rfl⟩ := u32_of a0 w0
  by_cases hout : 2000 < len1 ∨ (a2 < 0 ∨ (len1 : Int) < a2)
  · exact walk_out _ _ _ _ _ _ (by omega) hout
  · obtain ⟨k, rfl⟩ := Int.eq_ofNat_of_zero_le (show 0 ≤ a2 by omega)
    subst hlen
    by_cases hkc : k < cap1
    · cases a1 with
      | none => have := hnone rfl; omega
      | some ad => exact walkIn s ad cap1 k l w hs (by omega) hlc hcm (by omega) hkc hb
    · obtain rfl : k = l.length := by omega
      obtain rfl : cap1 = l.length := by omega
      exact walk_end s a1 l w hs (by omega) (fun e => List.eq_nil_of_length_eq_zero (hnone e).1) hb

set_option maxRecDepth 100000 in
theorem lifted (os : Os) (started : os.Started) (H : Type) (enc : TypeId × Value → H) :
    ReturnsInHanded {} Try.checked os 4 .any (Rows.crcPartsSpec.pre6 enc Try.prog Try.f4 Rows.crcPartsRow.domain false) (Rows.crcPartsSpec.post enc Try.prog Try.f4 false true false false) := by
  refine returnsInHanded_of_change (C := Try.checked) own started (by kernel_rfl) Try.func4
    (ChangeSpec.witness6 (enc := enc) (C := Try.checked) false ⟨#[], #[.int .u32 0, .slice none 0 0, .int .i64 0], []⟩ 8 (by kernel_rfl) (by kernel_rfl) (by kernel_rfl) (by kernel_rfl)) ?_
  intro W base args ds gs before hval0 hW hcnd _
  have hval : ∀ (j : Nat) t v, Try.f4.params[j]? = some t → args[j]? = some v → Value.okWide Try.prog W .any base t v := hval0
  have hW' := hW
  obtain ⟨p, q, hA0, hV, rfl, hfz, hnd⟩ := hW
  have hA : DataW.TrodAll enc Try.prog W 0 (fun _ => true) true Try.f4.params.toList args.toList ds p := hA0
  rw [Try.params4] at hA hval
  obtain ⟨v0, vs0, d0, ds0, p0, q0, hargs, rfl, rfl, h0, r0⟩ := trodAll_cons hA
  obtain ⟨v1, vs1, d1, ds1, p1, q1, rfl, rfl, rfl, h1, r1⟩ := trodAll_cons r0
  obtain ⟨v2, vs2, d2, ds2, p2, q2, rfl, rfl, rfl, h2, r2⟩ := trodAll_cons r1
  obtain ⟨rfl, rfl, rfl⟩ := trodAll_nil r2
  obtain rfl : args = #[v0, v1, v2] := by cases args; simp_all
  obtain ⟨rfl, rfl⟩ := trodVars_none hV
  obtain ⟨a0, rfl, rfl, rfl, w0⟩ := open_int Try.underlying22 (hval 0 22 v0 rfl rfl) h0
  obtain ⟨a1, len1, cap1, rfl⟩ := okWide_slice Try.underlying23 (hval 1 23 v1 rfl rfl)
  have k1 := h1
  have lt1 : ∀ x ∈ p1, x.block < W.heap.size := by obtain ⟨m, hm⟩ := k1; exact DataW.trod_lt m _ _ _ hm
  obtain ⟨z1, w1⟩ : ∃ zs, IsRow .u8 W a1 len1 cap1 zs := by
    obtain ⟨fuel, hf⟩ := h1
    rcases open_ints Try.underlying23 Try.underlying5 (by kernel_rfl) hf with ⟨hcs, _⟩ | ⟨x, l, c, zs, hcs, _, hl, hm, hz, _, hcell, hwz⟩
    · simp [Value.cells] at hcs
      obtain ⟨rfl, rfl, rfl⟩ := hcs
      exact ⟨[], .inl ⟨rfl, rfl, rfl, rfl⟩⟩
    · simp [Value.cells] at hcs
      obtain ⟨rfl, rfl, rfl⟩ := hcs
      exact ⟨zs, .inr ⟨_, rfl, hl, hm, by simpa using hz, hcell, hwz⟩⟩
  obtain ⟨a2, rfl, rfl, rfl, w2⟩ := open_int Try.underlying3 (hval 2 3 v2 rfl rfl) h2
  clear hA0 hval0
  refine (walk a0 a1 len1 cap1 z1 a2 W w0 w1 w2).mono fun e W' ⟨he, bel⟩ => ?_
  subst he
  exact ⟨_, rfl, _, _, _, [], _, [], hW', trodAll_mk1 (shut_bool Try.underlying4 _), (trodAll_cons_mk (shut_int Try.underlying22 w0) (trodAll_cons_mk (Below.trod laidOut (by kernel_rfl) (of_decide_eq_true (by kernel_rfl)) k1 bel lt1) (trodAll_cons_mk (shut_int Try.underlying3 w2) trodAll_mk0))), rfl, bel.frame _, fun h => by cases h⟩

theorem over : Rows.crcPartsRow.holds Try.pinned (OpenSpec.ofChange Rows.crcPartsSpec) :=
  OpenClaim.holds_of_wide 4 Try.f4 rfl rfl rfl rfl rfl rfl rfl ⟨rfl, rfl, rfl, rfl, rfl⟩ rfl rfl rfl rfl rfl (by kernel_rfl) Try.func4 (by kernel_rfl)
    (of_decide_eq_true (by kernel_rfl)) (by unfold Func.isWrapper; first | (rw [if_pos (by decide +kernel)]; kernel_rfl) | (rw [if_neg (by decide +kernel)]; exact ⟨rfl, rfl⟩))
    (fun os started H enc _ => lifted os started H enc)

/-- ████ THE STATEMENT ████ -/
theorem proved : Rows.CrcPartsSaid := over
#print axioms proved
end Go.Proofs.Ytljlipdpbflffaa.crcParts
