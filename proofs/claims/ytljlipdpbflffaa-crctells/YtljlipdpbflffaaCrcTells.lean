/- Every call of the law that sums, sums of more and the table are as the document says answers true: for every sum, all bytes (up to 2000 of them are held) and every place. No conditions. -/
import Derived.Test.YtljlipdpbflffaaCrcHeld
import Derived.Deep.RegionHeld3
import Derived.Test.YtljlipdpbflffaaRows
import Derived.WalkKit
import Derived.ProofKit
import Derived.OpenShut
import Derived.ShutString
import Derived.ChangeOld
import Derived.Below
namespace Go.Proofs.Ytljlipdpbflffaa.crcTells
open Go.ChangeShapes Go.WideShapes Go.ChangeAt Go.RowKit
open Go.ChangeMaps (open_string shut_string)
set_option linter.unusedVariables false

theorem own : ownKnob Try.prog.godebug = none := by kernel_rfl
theorem laidOut : laidOutB Try.prog = true := by kernel_rfl

/-- WHAT THE WALK IS TOLD OF A SLICE OF INTEGERS THAT CAME IN: it is nil; or it leads to a row of 'cap' cells, the numbers 'zs' (the first 'len' are its elements, the rest its spare room), each fitting its kind. -/
def IsRow (k : IntKind) (w : World) (a : Option Addr) (len cap : Nat) (zs : List Int) : Prop :=
  (a = none ∧ len = 0 ∧ cap = 0 ∧ zs = []) ∨
  ∃ x, a = some x ∧ len ≤ cap ∧ cap ≤ maxLen ∧ zs.length = cap ∧ (∀ i, i < zs.length → w.cell? (x.add i) = some (.int k (zs.getD i 0))) ∧ ∀ n ∈ zs, (Lit.int k n).wf = true

theorem and255 (n : Int) : ∃ k : Nat, k < 256 ∧ bits BinOp.and IntKind.i64 n 255 = (k : Int) := by
  refine ⟨(BitVec.ofInt 64 n &&& BitVec.ofInt 64 255).toNat, ?_, ?_⟩
  · rw [BitVec.toNat_and]
    have h : (BitVec.ofInt 64 255).toNat = 255 := by decide
    rw [h]
    have := Nat.and_le_right (n := (BitVec.ofInt 64 n).toNat) (m := 255)
    omega
  · show IntKind.i64.wrap ((BitVec.ofInt 64 n &&& BitVec.ofInt 64 255).toNat : Int) = _
    have hlt : (BitVec.ofInt 64 n &&& BitVec.ofInt 64 255).toNat ≤ 255 := by
      rw [BitVec.toNat_and]
      have h : (BitVec.ofInt 64 255).toNat = 255 := by decide
      rw [h]
      exact Nat.and_le_right
    rw [IntKind.wrap_i64]
    omega

/-- with a cell of the table beside them -/
def HeldT (w : World) (A : Option Addr) (l : List Nat) (p : Addr) (v : Value) (W : World) : Prop := HeldB w A l W ∧ W.cell? p = some v

theorem HeldT.next {w W W' : World} {A : Option Addr} {l : List Nat} {p : Addr} {v : Value} (h : HeldT w A l p v W) (hb : Below W.heap.size W W') : HeldT w A l p v W' :=
  ⟨h.1.next hb, by rw [hb.cell (lt_of_cell h.2)]; exact h.2⟩

theorem more_t (s : Nat) (A : Option Addr) (n c : Nat) (l : List Nat) (p : Addr) (v : Value) (w W : World) (hs : s < 4294967296) (hn : l.length = n) (hl : n ≤ 2000) (hh : HeldB w A l W ∧ W.cell? p = some v) :
    Calls Try.prog 10 #[.int .u32 s, .slice A n c] W fun e w' => e = .returned (.int .u32 (Crc.more s l : Nat)) ∧ HeldT w A l p v w' := by
  subst hn
  exact (more_any s A c l W hs (by unfold maxLen; omega) hh.1.2).mono fun _ _ ⟨he, hb⟩ => ⟨he, HeldT.next hh hb⟩
theorem sum_t (A : Option Addr) (n c : Nat) (l : List Nat) (p : Addr) (v : Value) (w W : World) (hn : l.length = n) (hl : n ≤ 2000) (hh : HeldB w A l W ∧ W.cell? p = some v) :
    Calls Try.prog 8 #[.slice A n c] W fun e w' => e = .returned (.int .u32 (Crc.more 0 l : Nat)) ∧ HeldT w A l p v w' := by
  subst hn
  exact (sum_any A c l W (by unfold maxLen; omega) hh.1.2).mono fun _ _ ⟨he, hb⟩ => ⟨he, HeldT.next hh hb⟩
theorem rmore_t (s : Nat) (A : Option Addr) (n c : Nat) (l : List Nat) (p : Addr) (v : Value) (w W : World) (hs : s < 4294967296) (hn : l.length = n) (hl : n ≤ 2000) (hh : HeldB w A l W ∧ W.cell? p = some v) :
    Calls Try.prog 11 #[.int .u32 s, .slice A n c] W fun e w' => e = .returned (.int .u32 (Crc.more s l : Nat)) ∧ HeldT w A l p v w' := by
  subst hn
  exact (rmore_any s A c l W hs (by unfold maxLen; omega) hh.1.2).mono fun _ _ ⟨he, hb⟩ => ⟨he, hb ▸ hh⟩
theorem rsum_t (A : Option Addr) (n c : Nat) (l : List Nat) (p : Addr) (v : Value) (w W : World) (hn : l.length = n) (hl : n ≤ 2000) (hh : HeldB w A l W ∧ W.cell? p = some v) :
    Calls Try.prog 9 #[.slice A n c] W fun e w' => e = .returned (.int .u32 (Crc.more 0 l : Nat)) ∧ HeldT w A l p v w' := by
  subst hn
  exact (rsum_any A c l W (by unfold maxLen; omega) hh.1.2).mono fun _ _ ⟨he, hb⟩ => ⟨he, hb ▸ hh⟩
theorem reight_t (x : Nat) (A : Option Addr) (l : List Nat) (p : Addr) (v : Value) (w W : World) (hx : x < 4294967296) (hh : HeldB w A l W ∧ W.cell? p = some v) :
    Calls Try.prog 12 #[.int .u32 x] W fun e w' => e = .returned (.int .u32 (Crc.e8 x : Nat)) ∧ HeldT w A l p v w' :=
  (reight_any x W hx).mono fun _ _ ⟨he, hb⟩ => ⟨he, hb ▸ hh⟩

set_option maxHeartbeats 4000000 in
set_option maxRecDepth 100000 in
theorem walkIn (s : Nat) (A : Option Addr) (cap : Nat) (a2 : Int) (l : List Nat) (w : World) (hs : s < 4294967296) (hl : l.length ≤ 2000) (hb : BytesAt w A l) :
    Calls Try.prog 3 #[.int .u32 s, .slice A l.length cap, .int .i64 a2] w fun e w' => e = .returned (.bool true) ∧ Below w.heap.size w w' := by
  have HH := Lib.hid (HeldB.start hb)
  obtain ⟨k, hk, hand⟩ := and255 a2
  have hz := zero_tab
  have HSZ := Lib.hid (show (Try.prog.info? 25).map (·.size) = some (tabCells 256).size by rw [tab_size]; exact size_tab)
  have hki : (k : Int) < 256 := by omega
  have hwr : IntKind.u32.wrap (k : Int) = (k : Int) := by rw [IntKind.wrap_u32']; omega
  have hk32 : k < 4294967296 := by omega
  clear hb
  go_enter Try.func3, Try.ntmps3
  go_wp2_with (first
    | (go_at_call 6; refine (awake_held A l w _ HH.out).mono ?_; rintro e w0 ⟨rfl, hh0⟩; have HH0 := Lib.hid hh0; clear hh0)
    | (go_at_call 7; refine (table_any _).mono ?_; rintro e w1 ⟨rfl, hb⟩; have HB := Lib.hid hb; clear hb)
    | (refine wpList_store_mid rfl 25 (.tmp 7) (.tmp 14) rfl _ 0 (tabCells 256) rfl rfl (by rw [tab_size]; exact there_new _ _ (tab_size 0)) HSZ.out (tab_one 256) ?_
       have HT := Lib.hid (tabAt_new w1)
       have HBW := Lib.hid (below_setCellsR (b := w1.heap.size) HB.out.size (tabCells 256).toList 0 _ (HB.out.alloc HB.out.size (.cells (tabCells 0) 25)))
       generalize hW : (w1.alloc (Obj.cells (tabCells 0) 25)).setCells w1.heap.size 0 (tabCells 256).toList = W at *
       clear hW HB hz HSZ
       generalize w1.heap.size = g at *))
  have HS := Lib.hid (show HeldB w A l W.drew ∧ W.drew.cell? ⟨g, k, none⟩ = some (.int .u32 ((Crc.e8 k : Nat) : Int)) from ⟨(HH0.out.next HBW.out).drew, HT.out k hk⟩)
  go_region_held3 (fun W => HeldB w A l W ∧ W.cell? ⟨g, k, none⟩ = some (.int .u32 ((Crc.e8 k : Nat) : Int))) (first | exact HS.out | exact ⟨by assumption, by assumption⟩)
    (first
      | (go_at_call 10; ((with_reducible refine (more_t _ _ _ _ l _ _ w _ hs rfl hl (by assumption)).mono ?_)); rintro e w2 ⟨rfl, hh2, hc2⟩)
      | (go_at_call 8; ((with_reducible refine (sum_t _ _ _ l _ _ w _ rfl hl (by assumption)).mono ?_)); rintro e w2 ⟨rfl, hh2, hc2⟩)
      | (go_at_call 11; ((with_reducible refine (rmore_t _ _ _ _ l _ _ w _ hs rfl hl (by assumption)).mono ?_)); rintro e w2 ⟨rfl, hh2, hc2⟩)
      | (go_at_call 9; ((with_reducible refine (rsum_t _ _ _ l _ _ w _ rfl hl (by assumption)).mono ?_)); rintro e w2 ⟨rfl, hh2, hc2⟩)
      | (go_at_call 12; ((with_reducible refine (reight_t _ A l _ _ w _ hk32 (by assumption)).mono ?_)); rintro e w2 ⟨rfl, hh2, hc2⟩))
  go_wp2
  go_ret
  exact ⟨rfl, hh2.1⟩

set_option maxHeartbeats 1000000 in
theorem walk_out (a0 : Int) (A : Option Addr) (n c : Nat) (a2 : Int) (w : World) (hn : n ≤ maxLen) (h1 : 2000 < n) :
    Calls Try.prog 3 #[.int .u32 a0, .slice A n c, .int .i64 a2] w fun e w' => e = .returned (.bool true) ∧ Below w.heap.size w w' := by
  unfold maxLen at hn
  have d1 : decide ((2000 : Int) < (n : Int)) = true := decide_eq_true (by omega)
  go_enter Try.func3, Try.ntmps3
  go_wp2_with (go_at_call 6; refine (awake_any _).mono ?_; rintro e w1 ⟨rfl, hb1⟩)
  go_ret
  exact ⟨rfl, hb1⟩

theorem walk (a0 : Int) (a1 : Option Addr) (len1 cap1 : Nat) (z1 : List Int) (a2 : Int) (w : World) (w0 : (Lit.int .u32 a0).wf = true) (w1 : IsRow .u8 w a1 len1 cap1 z1) (w2 : (Lit.int .i64 a2).wf = true) :
    Calls Try.prog 3 #[.int .u32 a0, .slice a1 len1 cap1, .int .i64 a2] w fun e w' => e = .returned (.bool true) ∧ Below w.heap.size w w' := by
  obtain ⟨l, hlen, hlc, hcm, hb, hnone⟩ := bytes_of w a1 len1 cap1 z1 w1
  obtain ⟨s, hs, rfl⟩ := u32_of a0 w0
  by_cases hout : 2000 < len1
  · exact walk_out _ _ _ _ _ _ (by omega) hout
  · subst hlen
    exact walkIn s a1 cap1 a2 l w hs (by omega) hb

set_option maxRecDepth 100000 in
theorem lifted (os : Os) (started : os.Started) (H : Type) (enc : TypeId × Value → H) :
    ReturnsInHanded {} Try.checked os 3 .any (Rows.crcTellsSpec.pre6 enc Try.prog Try.f3 Rows.crcTellsRow.domain false) (Rows.crcTellsSpec.post enc Try.prog Try.f3 false true false false) := by
  refine returnsInHanded_of_change (C := Try.checked) own started (by kernel_rfl) Try.func3
    (ChangeSpec.witness6 (enc := enc) (C := Try.checked) false ⟨#[], #[.int .u32 0, .slice none 0 0, .int .i64 0], []⟩ 8 (by kernel_rfl) (by kernel_rfl) (by kernel_rfl) (by kernel_rfl)) ?_
  intro W base args ds gs before hval0 hW hcnd _
  have hval : ∀ (j : Nat) t v, Try.f3.params[j]? = some t → args[j]? = some v → Value.okWide Try.prog W .any base t v := hval0
  have hW' := hW
  obtain ⟨p, q, hA0, hV, rfl, hfz, hnd⟩ := hW
  have hA : DataW.TrodAll enc Try.prog W 0 (fun _ => true) true Try.f3.params.toList args.toList ds p := hA0
  rw [Try.params3] at hA hval
  obtain ⟨v0, vs0, d0, ds0, p0, q0, hargs, rfl, rfl, h0, r0⟩ := trodAll_cons hA
  obtain ⟨v1, vs1, d1, ds1, p1, q1, rfl, rfl, rfl, h1, r1⟩ := trodAll_cons r0
  obtain ⟨v2, vs2, d2, ds2, p2, q2, rfl, rfl, rfl, h2, r2⟩ := trodAll_cons r1
  obtain ⟨rfl, rfl, rfl⟩ := trodAll_nil r2
  obtain rfl : args = #[v0, v1, v2] := by cases args; simp_all
  obtain ⟨rfl, rfl⟩ := trodVars_none hV
  obtain ⟨a0, rfl, rfl, rfl, w0⟩ := open_int Try.underlying22 (hval 0 22 v0 rfl rfl) h0
  obtain ⟨a1, len1, cap1, rfl⟩ := okWide_slice Try.underlying23 (hval 1 23 v1 rfl rfl)
  have k1 := h1
  have lt1 : ∀ x ∈ p1, x.block < W.heap.size := by obtain ⟨m, hm⟩ := k1; exact DataW.trod_lt m _ _ _ hm
  obtain ⟨z1, w1⟩ : ∃ zs, IsRow .u8 W a1 len1 cap1 zs := by
    obtain ⟨fuel, hf⟩ := h1
    rcases open_ints Try.underlying23 Try.underlying5 (by kernel_rfl) hf with ⟨hcs, _⟩ | ⟨x, l, c, zs, hcs, _, hl, hm, hz, _, hcell, hwz⟩
    · simp [Value.cells] at hcs
      obtain ⟨rfl, rfl, rfl⟩ := hcs
      exact ⟨[], .inl ⟨rfl, rfl, rfl, rfl⟩⟩
    · simp [Value.cells] at hcs
      obtain ⟨rfl, rfl, rfl⟩ := hcs
      exact ⟨zs, .inr ⟨_, rfl, hl, hm, by simpa using hz, hcell, hwz⟩⟩
  obtain ⟨a2, rfl, rfl, rfl, w2⟩ := open_int Try.underlying3 (hval 2 3 v2 rfl rfl) h2
  clear hA0 hval0
  refine (walk a0 a1 len1 cap1 z1 a2 W w0 w1 w2).mono fun e W' ⟨he, bel⟩ => ?_
  subst he
  exact ⟨_, rfl, _, _, _, [], _, [], hW', trodAll_mk1 (shut_bool Try.underlying4 _), (trodAll_cons_mk (shut_int Try.underlying22 w0) (trodAll_cons_mk (Below.trod laidOut (by kernel_rfl) (of_decide_eq_true (by kernel_rfl)) k1 bel lt1) (trodAll_cons_mk (shut_int Try.underlying3 w2) trodAll_mk0))), rfl, bel.frame _, fun h => by cases h⟩

theorem over : Rows.crcTellsRow.holds Try.pinned (OpenSpec.ofChange Rows.crcTellsSpec) :=
  OpenClaim.holds_of_wide 3 Try.f3 rfl rfl rfl rfl rfl rfl rfl ⟨rfl, rfl, rfl, rfl, rfl⟩ rfl rfl rfl rfl rfl (by kernel_rfl) Try.func3 (by kernel_rfl)
    (of_decide_eq_true (by kernel_rfl)) (by unfold Func.isWrapper; first | (rw [if_pos (by decide +kernel)]; kernel_rfl) | (rw [if_neg (by decide +kernel)]; exact ⟨rfl, rfl⟩))
    (fun os started H enc _ => lifted os started H enc)

/-- ████ THE STATEMENT ████ -/
theorem proved : Rows.CrcTellsSaid := over
#print axioms proved
end Go.Proofs.Ytljlipdpbflffaa.crcTells
