/- Contracts of slices.Grow of no row, and slices.Concat of two rows. -/
import Derived.Test.YtjidelfpmlnhkaaGreatSavAM
import Derived.Test.YtjidelfpmlnhkaaGreatRouteC
import Derived.Lib.AppendZeros
namespace Go.Proofs.YtjidelfpmlnhkaaGreat
open Go.RowKit
set_option linter.unusedVariables false
set_option maxRecDepth 100000

theorem grown_nil (w : World) (n : Nat) (h0 : 0 < n) (hn : n ≤ 100000) :
    ∃ v' w', (Builtin.append_ #[29, 3] 29 #[.slice none 0 0, .int .i64 n]).run Tryz.prog w = .ok v' w' ∧ ∃ A c, v' = .slice (some A) n c ∧ Hid (OwnI w' w.heap.size (.slice (some A) 0 c) [] ∧ Below w.heap.size w w' ∧ n ≤ c) := by
  obtain ⟨i0, hi0, hz0, hz1, hz2⟩ := info_parts3 int_info
  have hr := Lib.run_append_nil_zeros (P := Tryz.prog) w 29 3 29 3 i0 _ .i64 .i64 Tryz.underlying29 Tryz.underlying3 hi0 hz0 n h0 (by omega) (by omega) (by rw [hz2]; omega)
  have hge := grownCap_ge w n 0 3
  have hcm : grownCap w n 0 3 ≤ maxLen := grownCap_le_maxLen w n 0 3 (by unfold maxLen; omega)
  refine ⟨_, _, hr, _, _, rfl, ⟨by simp, .inr ⟨w.heap.size, _, _, rfl, Nat.le_refl _, heap_alloc_new w.drew _, Nat.zero_le _, hcm, ?_, by simp⟩⟩, ⟨rfl, rfl, rfl, by simp, fun k hk => heap_alloc_old w.drew _ hk⟩, hge⟩
  simp only [Array.size_append, size_zeroCells]
  show n * 1 + (grownCap w n 0 3 - n) * 1 = _
  omega

set_option maxHeartbeats 1000000 in
theorem grow_b (n : Nat) (hn : n ≤ 100000) (w : World) :
    Calls Tryz.prog 128 #[.slice none 0 0, .int .i64 (n : Int)] w fun e w' => ∃ A c, e = .returned (.slice A 0 c) ∧ Hid (OwnI w' w.heap.size (.slice A 0 c) [] ∧ Below w.heap.size w w') := by
  have d0 : decide ((n : Int) < (0 : Int)) = false := decide_eq_false (by omega)
  by_cases h0 : 0 < n
  · have d1 : decide ((0 : Int) < (n : Int)) = true := decide_eq_true (by omega)
    have d2 : decide (0 < n) = true := decide_eq_true h0
    have HA := Lib.hid (grown_nil w n h0 hn)
    go_enter Tryz.func128, Tryz.ntmps128
    go_wp2_with (at_builtin; refine wpList_append_any rfl (.tmp 20) (.tmp 21) 29 3 rfl _ _ rfl rfl _ HA.out ?_; intro v1 w1 hc1; obtain ⟨A1, c1, rfl, HC1⟩ := hc1)
    go_ret
    exact ⟨_, _, rfl, HC1.out.1, HC1.out.2.1⟩
  · obtain rfl : n = 0 := by omega
    have d1 : decide ((0 : Int) < ((0 : Nat) : Int)) = false := by decide
    clear h0
    go_enter Tryz.func128, Tryz.ntmps128
    go_wp2
    go_ret
    exact ⟨none, 0, rfl, ⟨⟨by simp, .inl ⟨rfl, rfl⟩⟩, Below.refl _ _⟩⟩

/-- what an append to a row of one's own leaves, whatever the row's base -/
def ByC (w W : World) (l : List Int) (M : Nat) (v' : Value) (w' : World) : Prop := ∃ A c, v' = .slice A M c ∧ Hid (OwnI w' w.heap.size (.slice A M c) l ∧ Below w.heap.size w w')
theorem app_row {w W : World} {A : Option Addr} {m c : Nat} {l : List Int} (h : OwnI W w.heap.size (.slice A m c) l) (hb : Below w.heap.size w W) {B : Option Addr} {n d : Nat} {k : List Int} (hn : k.length = n) (hk : IntsAt w B k) (hm : l.length = m) (hs : m + n ≤ 100000) :
    ∃ v' w', (Builtin.append_ #[29, 29] 29 #[.slice A m c, .slice B n d]).run Tryz.prog W = .ok v' w' ∧ ByC w W (l ++ k) (m + n) v' w' := by
  obtain ⟨v', w', h1, A', c', e, h2⟩ := owni_app h hb.size B n d k hn (hk.below hb) (by omega)
  rw [hm] at e
  subst e
  exact ⟨_, w', h1, A', c', rfl, h2.out.1, hb.trans h2.out.2⟩

set_option maxHeartbeats 2000000 in
theorem concat_b (ad : Addr) (c : Nat) (r s : Rw) (w : World) (h0 : w.cell? ad = some (.slice r.A r.m r.c)) (h1 : w.cell? ⟨ad.block, ad.off + 1, none⟩ = some (.slice s.A s.m s.c)) (hr : RwOk w r) (hs : RwOk w s) :
    Calls Tryz.prog 97 #[.slice (some ad) 2 c] w fun e w' => ∃ A c', e = .returned (.slice A (r.m + s.m) c') ∧ Hid (OwnI w' w.heap.size (.slice A (r.m + s.m) c') (r.st ++ s.st) ∧ Below w.heap.size w w') := by
  have hr2 := hr.s2
  have hs2 := hs.s2
  have HR : Hid (r.st.length = r.m ∧ IntsAt w r.A r.st) := ⟨hr.sl, hr.st⟩
  have HS : Hid (s.st.length = s.m ∧ IntsAt w s.A s.st) := ⟨hs.sl, hs.st⟩
  have HC0 := Lib.hid h0
  have HC1 := Lib.hid h1
  clear hr hs
  obtain ⟨rA, rm, rc, rst⟩ := r
  obtain ⟨sA, sm, sc, sst⟩ := s
  simp only at *
  have w1 : IntKind.i64.wrap ((rm : Int) + (sm : Int)) = (rm : Int) + (sm : Int) := by rw [IntKind.wrap_i64]; omega
  have d1 : decide ((rm : Int) < (0 : Int)) = false := decide_eq_false (by omega)
  have d2 : decide ((rm : Int) + (sm : Int) < (0 : Int)) = false := decide_eq_false (by omega)
  have HG : Hid (Calls Tryz.prog 128 #[.slice none 0 0, .int .i64 ((rm : Int) + (sm : Int))] w fun e w' => ∃ A c, e = .returned (.slice A 0 c) ∧ Hid (OwnI w' w.heap.size (.slice A 0 c) [] ∧ Below w.heap.size w w')) := grow_b (rm + sm) (by omega) w
  go_enter Tryz.func97, Tryz.ntmps97
  go_wp2
  refine wp_loop_rounds 3 ?_
  rw [rounds_succ]
  go_wp2
  rw [rounds_succ]
  go_wp2
  rw [rounds_succ]
  go_wp2_with fail
  with_reducible refine HG.out.mono ?_
  rintro e w1 ⟨A1, c1, rfl, h1'⟩
  clear h0 h1 HG
  have k0 : w1.cell? ad = some (.slice rA rm rc) := by rw [h1'.out.2.cell (p := ad) (lt_of_cell HC0.out)]; exact HC0.out
  have HA := Lib.hid (app_row (B := rA) (d := rc) h1'.out.1 h1'.out.2 HR.out.1 HR.out.2 rfl (by omega))
  simp only [Nat.zero_add, List.nil_append] at HA
  go_wp2
  refine wp_loop_rounds 3 ?_
  rw [rounds_succ]
  go_wp2_with (at_builtin; refine wpList_append_any rfl (.tmp 31) (.tmp 32) 29 29 rfl _ _ rfl rfl _ HA.out ?_; intro v2 w2 hc2; obtain ⟨A2, c2, rfl, HC2⟩ := hc2)
  have k1 : w2.cell? ⟨ad.block, ad.off + 1, none⟩ = some (.slice sA sm sc) := by rw [HC2.out.2.cell (lt_of_cell HC1.out)]; exact HC1.out
  have HA2 := Lib.hid (app_row (B := sA) (d := sc) HC2.out.1 HC2.out.2 HS.out.1 HS.out.2 HR.out.1 (by omega))
  clear k0 HA
  rw [rounds_succ]
  go_wp2_with (at_builtin; refine wpList_append_any rfl (.tmp 31) (.tmp 32) 29 29 rfl _ _ rfl rfl _ HA2.out ?_; intro v3 w3 hc3; obtain ⟨A3, c3, rfl, HC3⟩ := hc3)
  rw [rounds_succ]
  go_wp2
  go_ret
  exact ⟨_, _, rfl, HC3.out⟩
end Go.Proofs.YtjidelfpmlnhkaaGreat
