/- slices.Clone of numbers, slices.Concat of two lists of int64, and rows of int64 of one's own. -/
import Derived.Test.YtbacakblboodeaaPlanMem
import Derived.Test.YtbacakblboodeaaLoadS
import Derived.Lib.LazyBuf
import Derived.Lib.AppendZeros
namespace Go.Proofs.Ytbacakblboodeaa
open Go.RowKit Go.Shelf
set_option linter.unusedVariables false
set_option maxRecDepth 100000

set_option maxHeartbeats 1000000 in
theorem clone_i (A : Option Addr) (n c : Nat) (l : List Int) (w : World) (hn : l.length = n) (hn2 : n ≤ 100000) (h : IntsAt w A l) :
    Calls Try.prog 45 #[.slice A n c] w fun e w' => ∃ A' c', e = .returned (.slice A' n c') ∧ Hid (OwnI w' w.heap.size (.slice A' n c') l ∧ Below w.heap.size w w') := by
  cases A with
  | none =>
    have hl0 : l = [] := by
      cases l with
      | nil => rfl
      | cons z l =>
        obtain ⟨ad, h1, _⟩ := h 0 z rfl
        cases h1
    subst hl0
    obtain rfl : n = 0 := by simpa using hn.symm
    have HO := Lib.hid (ownI_nil w w.heap.size)
    have hq : ∀ W : World, (binOp .eql 29 (.slice none 0 c) (.slice none 0 0)).run Try.prog W = .ok (.bool true) W := fun W => _root_.Go.run_eql_slice_nil W 29 3 none 0 c Try.underlying29
    clear h hn
    go_enter Try.func45, Try.ntmps45
    go_wp2
    go_ret
    exact ⟨none, 0, rfl, HO.out, Below.refl _ _⟩
  | some ad =>
    have hq : ∀ W : World, (binOp .eql 29 (.slice (some ad) n c) (.slice none 0 0)).run Try.prog W = .ok (.bool false) W := fun W => _root_.Go.run_eql_slice_nil W 29 3 (some ad) n c Try.underlying29
    have HA : Hid (∃ v' w', (Builtin.append_ #[29, 29] 29 #[.slice (some ⟨w.heap.size, 0, none⟩) 0 0, .slice (some ad) n c]).run Try.prog (w.alloc (.cells #[] 3)) = .ok v' w' ∧ ∃ A' c', v' = .slice A' n c' ∧ Hid (OwnI w' w.heap.size (.slice A' n c') l ∧ Below w.heap.size w w')) := by
      obtain ⟨v', w', h1, A', c', e, h2⟩ := (by simpa using owni_app (own_none w w.heap.size (Nat.le_refl _)) (by simp) (some ad) n c l hn (h.below (below_alloc w _)) (by simp; exact hn2))
      exact ⟨v', w', h1, A', c', e, by rw [← e]; exact h2.out.1, (below_alloc w _).trans h2.out.2⟩
    clear h hn
    go_enter Try.func45, Try.ntmps45
    go_wp2_with (at_builtin; refine wpList_append_any rfl (.tmp 5) (.tmp 6) 29 29 rfl _ _ rfl rfl _ HA.out ?_; intro v1 w1 hc1; obtain ⟨A1, c1, rfl, HC1⟩ := hc1)
    go_ret
    exact ⟨A1, c1, rfl, HC1.out⟩

def OwnN (W : World) (base : Nat) (v : Value) (l : List Int) : Prop := W.ownsRow base 2 1 v l.length (l.map (Value.int .i64))
theorem OwnN.ints {W : World} {base : Nat} {v : Value} {l : List Int} (h : OwnN W base v l) : ∃ A c, v = .slice A l.length c ∧ l.length ≤ c ∧ c ≤ maxLen ∧ IntsAt W A l := by
  have h' := h
  rcases h'.2 with ⟨rfl, h2⟩ | ⟨g, cap, cur, rfl, hbg, hg, hnc, hcm, _⟩
  · have : l = [] := List.eq_nil_of_length_eq_zero h2
    subst this
    exact ⟨none, 0, rfl, Nat.le_refl _, by decide, IntsAt.nil _ _⟩
  · refine ⟨_, cap, rfl, hnc, hcm, fun k z hz => ⟨_, rfl, h.cells (g := g) rfl k _ ?_⟩⟩
    rw [List.getElem?_map, hz]
    rfl
theorem OwnN.below {W W' : World} {base : Nat} {v : Value} {l : List Int} (h : OwnN W base v l) (hb : Below W.heap.size W W') : OwnN W' base v l := by
  obtain ⟨h1, h2⟩ := h
  refine ⟨h1, ?_⟩
  rcases h2 with h2 | ⟨g, cap, cur, hv, hg, hh, r⟩
  · exact .inl h2
  · exact .inr ⟨g, cap, cur, hv, hg, (hb.block g (Array.getElem?_eq_some_iff.1 hh).1).trans hh, r⟩
theorem ownn_none (W : World) (base : Nat) (h : base ≤ W.heap.size) : OwnN (W.alloc (.cells #[] 2)) base (.slice (some ⟨W.heap.size, 0, none⟩) 0 0) [] :=
  ⟨by simp, .inr ⟨W.heap.size, 0, #[], rfl, h, heap_alloc_new W _, Nat.le_refl _, by decide, by simp, by simp⟩⟩
theorem ownn_one (W : World) (base : Nat) (z : Int) (h : base ≤ W.heap.size) : OwnN (W.alloc (.cells #[.int .i64 z] 2)) base (.slice (some ⟨W.heap.size, 0, none⟩) 1 1) [z] :=
  ⟨by simp, .inr ⟨W.heap.size, 1, #[.int .i64 z], rfl, h, heap_alloc_new W _, Nat.le_refl _, by decide, by simp, by simp⟩⟩

/-- what an append of nodes to such a row leaves -/
def ByN (W : World) (base : Nat) (l : List Int) (m : Nat) (v' : Value) (w' : World) : Prop := ∃ A c, v' = .slice A m c ∧ Hid (OwnN w' base v' l ∧ Below base W w')
theorem ownn_app {W : World} {base : Nat} {v : Value} {l : List Int} (h : OwnN W base v l) (hb : base ≤ W.heap.size) (A : Option Addr) (m c : Nat) (b : List Int) (hm : b.length = m) (hby : IntsAt W A b) (hs : l.length + m ≤ 100000) :
    ∃ v' w', (Builtin.append_ #[22, 22] 22 #[v, .slice A m c]).run Try.prog W = .ok v' w' ∧ ByN W base (l ++ b) (l.length + m) v' w' := by
  obtain ⟨i0, hi0, hz0, hz1, hz2⟩ := info_parts4 int64_info
  cases A with
  | none =>
    have hl0 : b = [] := by
      cases b with
      | nil => rfl
      | cons z b =>
        obtain ⟨ad, h1, _⟩ := hby 0 z rfl
        cases h1
    subst hl0
    obtain rfl : m = 0 := by simpa using hm.symm
    rw [List.append_nil, Nat.add_zero]
    obtain ⟨A', c', e, _⟩ := h.ints
    refine ⟨v, W, ?_, A', c', e, h, Below.refl _ _⟩
    rcases h.2 with ⟨rfl, h0⟩ | ⟨g, cap, cur, rfl, _, _, hnc, _⟩
    · simp [Builtin.append_, run_underlying Try.underlying22, sizeOf, typeInfo, hi0, Builtin.lenOf, Builtin.firstCells]
    · simp [Builtin.append_, run_underlying Try.underlying22, sizeOf, typeInfo, hi0, Builtin.lenOf, Builtin.firstCells, hnc, storeCells]
  | some ad =>
    obtain ⟨v', w', h1, h2, h3, _⟩ := run_append_own (P := Try.prog) W base 22 22 2 i0 _ 1 8 Try.underlying22 hi0 hz0 hz1 hz2 rfl (by omega) v l.length (l.map (Value.int .i64)) h ad m c (b.map (Value.int .i64)) (by rw [List.length_map, hm, Nat.mul_one])
      (fun j u hu => by
        rw [List.getElem?_map] at hu
        cases hz : b[j]? with
        | none => rw [hz] at hu; cases hu
        | some z =>
          rw [hz] at hu
          obtain rfl := Option.some.inj hu
          obtain ⟨ad', e, hc⟩ := hby j z hz
          obtain rfl := Option.some.inj e
          exact hc) (by intro x hx; obtain ⟨z, _, rfl⟩ := List.mem_map.1 hx; rfl) (by unfold maxLen; omega) (by omega) hb
    have ho : OwnN w' base v' (l ++ b) := by unfold OwnN; rw [List.length_append, hm, List.map_append]; exact h2
    obtain ⟨A', c', e, _⟩ := ho.ints
    refine ⟨v', w', h1, A', c', by rw [e, List.length_append, hm], ho, ?_⟩
    exact ⟨h3.os, h3.tape, h3.output, h3.size, fun k hk => h3.block k (Nat.lt_of_lt_of_le hk hb) (fun e => by have := (h.lt k e.symm).1; omega)⟩

theorem grown_n (w : World) (n : Nat) (h0 : 0 < n) (hn : n ≤ 100000) :
    ∃ v' w', (Builtin.append_ #[22, 3] 22 #[.slice none 0 0, .int .i64 n]).run Try.prog w = .ok v' w' ∧ ∃ A c, v' = .slice (some A) n c ∧ Hid (OwnN w' w.heap.size (.slice (some A) 0 c) [] ∧ Below w.heap.size w w' ∧ n ≤ c) := by
  obtain ⟨i0, hi0, hz0, hz1, hz2⟩ := info_parts4 int64_info
  have hr := Lib.run_append_nil_zeros (P := Try.prog) w 22 3 22 2 i0 _ .i64 .i64 Try.underlying22 Try.underlying3 hi0 hz0 n h0 (by omega) (by omega) (by rw [hz2]; omega)
  have hge := grownCap_ge w n 0 2
  have hcm : grownCap w n 0 2 ≤ maxLen := grownCap_le_maxLen w n 0 2 (by unfold maxLen; omega)
  refine ⟨_, _, hr, _, _, rfl, ⟨by simp, .inr ⟨w.heap.size, _, _, rfl, Nat.le_refl _, heap_alloc_new w.drew _, Nat.zero_le _, hcm, ?_, by simp⟩⟩, ⟨rfl, rfl, rfl, by simp, fun k hk => heap_alloc_old w.drew _ hk⟩, hge⟩
  simp only [Array.size_append, size_zeroCells]
  show n * 1 + (grownCap w n 0 2 - n) * 1 = _
  omega

set_option maxHeartbeats 1000000 in
theorem grow_n (n : Nat) (hn : n ≤ 100000) (w : World) :
    Calls Try.prog 75 #[.slice none 0 0, .int .i64 (n : Int)] w fun e w' => ∃ A c, e = .returned (.slice A 0 c) ∧ Hid (OwnN w' w.heap.size (.slice A 0 c) [] ∧ Below w.heap.size w w') := by
  have d0 : decide ((n : Int) < (0 : Int)) = false := decide_eq_false (by omega)
  by_cases h0 : 0 < n
  · have d1 : decide ((0 : Int) < (n : Int)) = true := decide_eq_true (by omega)
    have d2 : decide (0 < n) = true := decide_eq_true h0
    have HA := Lib.hid (grown_n w n h0 hn)
    go_enter Try.func75, Try.ntmps75
    go_wp2_with (at_builtin; refine wpList_append_any rfl (.tmp 20) (.tmp 21) 22 3 rfl _ _ rfl rfl _ HA.out ?_; intro v1 w1 hc1; obtain ⟨A1, c1, rfl, HC1⟩ := hc1)
    go_ret
    exact ⟨_, _, rfl, HC1.out.1, HC1.out.2.1⟩
  · obtain rfl : n = 0 := by omega
    have d1 : decide ((0 : Int) < ((0 : Nat) : Int)) = false := by decide
    clear h0
    go_enter Try.func75, Try.ntmps75
    go_wp2
    go_ret
    exact ⟨none, 0, rfl, ⟨⟨by simp, .inl ⟨rfl, rfl⟩⟩, Below.refl _ _⟩⟩

/-- what an append to a row of one's own leaves, whatever the row's base -/
def ByD (w W : World) (l : List Int) (M : Nat) (v' : Value) (w' : World) : Prop := ∃ A c, v' = .slice A M c ∧ Hid (OwnN w' w.heap.size (.slice A M c) l ∧ Below w.heap.size w w')
theorem app_rown {w W : World} {A : Option Addr} {m c : Nat} {l : List Int} (h : OwnN W w.heap.size (.slice A m c) l) (hb : Below w.heap.size w W) {B : Option Addr} {n d : Nat} {k : List Int} (hn : k.length = n) (hk : IntsAt w B k) (hm : l.length = m) (hs : m + n ≤ 100000) :
    ∃ v' w', (Builtin.append_ #[22, 22] 22 #[.slice A m c, .slice B n d]).run Try.prog W = .ok v' w' ∧ ByD w W (l ++ k) (m + n) v' w' := by
  obtain ⟨v', w', h1, A', c', e, h2⟩ := ownn_app h hb.size B n d k hn (hk.below hb) (by omega)
  rw [hm] at e
  subst e
  exact ⟨_, w', h1, A', c', rfl, h2.out.1, hb.trans h2.out.2⟩

set_option maxHeartbeats 2000000 in
theorem concat_n (ad : Addr) (c : Nat) (rA : Option Addr) (rm rc : Nat) (rst : List Int) (sA : Option Addr) (sm sc : Nat) (sst : List Int) (w : World) (h0 : w.cell? ad = some (.slice rA rm rc)) (h1 : w.cell? ⟨ad.block, ad.off + 1, none⟩ = some (.slice sA sm sc)) (HR : Hid (rst.length = rm ∧ IntsAt w rA rst)) (HS : Hid (sst.length = sm ∧ IntsAt w sA sst)) (hr2 : rm ≤ 1000) (hs2 : sm ≤ 1000) :
    Calls Try.prog 50 #[.slice (some ad) 2 c] w fun e w' => ∃ A c', e = .returned (.slice A (rm + sm) c') ∧ Hid (OwnN w' w.heap.size (.slice A (rm + sm) c') (rst ++ sst) ∧ Below w.heap.size w w') := by
  have HC0 := Lib.hid h0
  have HC1 := Lib.hid h1
  have w1 : IntKind.i64.wrap ((rm : Int) + (sm : Int)) = (rm : Int) + (sm : Int) := by rw [IntKind.wrap_i64]; omega
  have d1 : decide ((rm : Int) < (0 : Int)) = false := decide_eq_false (by omega)
  have d2 : decide ((rm : Int) + (sm : Int) < (0 : Int)) = false := decide_eq_false (by omega)
  have HG : Hid (Calls Try.prog 75 #[.slice none 0 0, .int .i64 ((rm : Int) + (sm : Int))] w fun e w' => ∃ A c, e = .returned (.slice A 0 c) ∧ Hid (OwnN w' w.heap.size (.slice A 0 c) [] ∧ Below w.heap.size w w')) := grow_n (rm + sm) (by omega) w
  go_enter Try.func50, Try.ntmps50
  go_wp2
  refine wp_loop_rounds 3 ?_
  rw [rounds_succ]
  go_wp2
  rw [rounds_succ]
  go_wp2
  rw [rounds_succ]
  go_wp2_with fail
  with_reducible refine HG.out.mono ?_
  rintro e w1 ⟨A1, c1, rfl, h1'⟩
  clear h0 h1 HG
  have k0 : w1.cell? ad = some (.slice rA rm rc) := by rw [h1'.out.2.cell (p := ad) (lt_of_cell HC0.out)]; exact HC0.out
  have HA := Lib.hid (app_rown (B := rA) (d := rc) h1'.out.1 h1'.out.2 HR.out.1 HR.out.2 rfl (by omega))
  simp only [Nat.zero_add, List.nil_append] at HA
  go_wp2
  refine wp_loop_rounds 3 ?_
  rw [rounds_succ]
  go_wp2_with (at_builtin; refine wpList_append_any rfl (.tmp 31) (.tmp 32) 22 22 rfl _ _ rfl rfl _ HA.out ?_; intro v2 w2 hc2; obtain ⟨A2, c2, rfl, HC2⟩ := hc2)
  have k1 : w2.cell? ⟨ad.block, ad.off + 1, none⟩ = some (.slice sA sm sc) := by rw [HC2.out.2.cell (lt_of_cell HC1.out)]; exact HC1.out
  have HA2 := Lib.hid (app_rown (B := sA) (d := sc) HC2.out.1 HC2.out.2 HS.out.1 HS.out.2 HR.out.1 (by omega))
  clear k0 HA
  rw [rounds_succ]
  go_wp2_with (at_builtin; refine wpList_append_any rfl (.tmp 31) (.tmp 32) 22 22 rfl _ _ rfl rfl _ HA2.out ?_; intro v3 w3 hc3; obtain ⟨A3, c3, rfl, HC3⟩ := hc3)
  rw [rounds_succ]
  go_wp2
  go_ret
  exact ⟨_, _, rfl, HC3.out⟩


end Go.Proofs.Ytbacakblboodeaa
