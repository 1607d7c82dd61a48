/- The document's answer for better: a number put into a list, and one taken out. -/
import Derived.Test.YtgjmlnpfkmpfgaaGreatBetRow
import Derived.Test.YtgjmlnpfkmpfgaaGreatMaths
import Derived.RegionTactic
import Derived.BigRegion
namespace Go.Proofs.YtgjmlnpfkmpfgaaGreat
open Go.RowKit
set_option linter.unusedVariables false
set_option maxRecDepth 100000

/-- a new list of numbers of a call's own is told -/
def NewR (w : World) (l : List Int) (m : Nat) (e : Ending) (w' : World) : Prop := ∃ A c, e = .returned (.slice A m c) ∧ Hid (l.length = m ∧ m ≤ c ∧ Below w.heap.size w w' ∧ IntsAt w' A l ∧ ∀ ad, A = some ad → w.heap.size ≤ ad.block)
theorem NewR.of {w w' : World} {base n c : Nat} {A : Option Addr} {l : List Int} (h : OwnI w' w.heap.size (.slice A n c) l) (hl : l.length = n) (hb : Below w.heap.size w w') : NewR w l n (.returned (.slice A n c)) w' := by
  refine ⟨A, c, rfl, hl, ?_, hb, ?_, fun ad e => ?_⟩
  · obtain ⟨A', c', e, h1, _⟩ := h.ints
    injection e with e1 e2 e3
    omega
  · obtain ⟨A', c', e, _, _, h1⟩ := h.ints
    injection e with e1 e2 e3
    rw [e1]; exact h1
  · rcases h.2 with ⟨e1, _⟩ | ⟨g, cap, cur, e1, hg, _⟩
    · injection e1 with e1; rw [e1] at e; cases e
    · injection e1 with e1
      rw [e1] at e
      obtain rfl := Option.some.inj e
      exact hg
set_option maxHeartbeats 8000000 in
theorem dput_b (A : Option Addr) (n c k : Nat) (l : List Int) (x : Int) (w : World) (hn : l.length = n) (hnc : n ≤ c) (hk : k ≤ n) (hn2 : n ≤ 20000) (h : IntsAt w A l) :
    Calls Tryz.prog 56 #[.slice A n c, .int .i64 (k : Int), .int .i64 x] w (NewR w (Bt.put l k x) (n + 1)) := by
  have HN := Lib.hid hn
  have HN2 := Lib.hid hn2
  obtain ⟨X2, c2, hsl2, hrow2⟩ := back_is A n c k hnc hk
  have hsl1 := front_is A n c k hnc hk
  obtain ⟨m2, hm2⟩ : ∃ m, n - k = m := ⟨_, rfl⟩
  rw [hm2] at hsl2
  have HR1 : Hid (IntsAt w A (l.take k)) := h.take' k
  have HR2 : Hid (IntsAt w X2 (l.drop k)) := hrow2 w l hn h
  have HL1 : Hid ((l.take k).length = k) := by unfold Hid; rw [List.length_take, hn]; omega
  have HL2 : Hid ((l.drop k).length = m2) := by unfold Hid; rw [List.length_drop, hn]; exact hm2
  have HL3 : Hid ((l.take k ++ [x]).length = k + 1) := by unfold Hid; rw [List.length_append, HL1.out]; rfl
  have HL4 : Hid ((l.take k ++ [x] ++ l.drop k).length = n + 1) := by unfold Hid; rw [List.length_append, HL3.out, HL2.out]; omega
  have HA1 : Hid (∃ v' w', (Builtin.append_ #[30, 30] 30 #[.slice (some ⟨w.heap.size, 0, none⟩) 0 0, .slice A k c]).run Tryz.prog ((w.alloc (.cells #[] 3)).drew) = .ok v' w' ∧ ∃ A' c', v' = .slice A' k c' ∧ Hid (J1 w none x (l.take k) (.slice A' k c') w')) := by
    obtain ⟨v', w', h1, A', c', e, h2⟩ := (J1.a w x).app A k c (l.take k) HL1.out HR1.out (by simp; omega) k (by simpa using HL1.out)
    subst e
    exact ⟨_, w', h1, A', c', rfl, h2⟩
  have HBB1 : Hid (∃ v' w', (Builtin.append_ #[30, 30] 30 #[.slice (some ⟨w.heap.size, 0, none⟩) 0 0, .slice A k c]).run Tryz.prog (((w.alloc (.cells #[] 3)).alloc (.cells #[.int .i64 x] 3)).drew) = .ok v' w' ∧ ∃ A' c', v' = .slice A' k c' ∧ Hid (J1 w (some (w.heap.size + 1)) x (l.take k) (.slice A' k c') w')) := by
    obtain ⟨v', w', h1, A', c', e, h2⟩ := (J1.b w x).app A k c (l.take k) HL1.out HR1.out (by simp; omega) k (by simpa using HL1.out)
    subst e
    exact ⟨_, w', h1, A', c', rfl, h2⟩
  have HC1 : Hid (∃ v' w', (Builtin.append_ #[30, 30] 30 #[.slice (some ⟨w.heap.size + 1, 0, none⟩) 0 0, .slice A k c]).run Tryz.prog (((w.alloc (.cells #[.int .i64 x] 3)).alloc (.cells #[] 3)).drew) = .ok v' w' ∧ ∃ A' c', v' = .slice A' k c' ∧ Hid (J1 w (some w.heap.size) x (l.take k) (.slice A' k c') w')) := by
    obtain ⟨v', w', h1, A', c', e, h2⟩ := (J1.c w x).app A k c (l.take k) HL1.out HR1.out (by simp; omega) k (by simpa using HL1.out)
    subst e
    exact ⟨_, w', h1, A', c', rfl, h2⟩
  have HONE : Hid (∀ w1 g A c, J1 w (some g) x (l.take k) (.slice A k c) w1 → ∃ v' w', (Builtin.append_ #[30, 30] 30 #[.slice A k c, .slice (some ⟨g, 0, none⟩) 1 1]).run Tryz.prog w1 = .ok v' w' ∧ ∃ A' c', v' = .slice A' (k + 1) c' ∧ Hid (J1 w none x (l.take k ++ [x]) (.slice A' (k + 1) c') w')) := fun w1 g A c h => by
    obtain ⟨v', w', h1, A', c', e, h2⟩ := h.one (by rw [HL1.out]; have := HN2.out; omega) (k + 1) HL3.out
    subst e
    exact ⟨_, w', h1, A', c', rfl, h2⟩
  have HTHR : Hid (∀ w1 A c, J1 w none x (l.take k ++ [x]) (.slice A (k + 1) c) w1 → ∃ v' w', (Builtin.append_ #[30, 30] 30 #[.slice A (k + 1) c, .slice X2 m2 c2]).run Tryz.prog w1 = .ok v' w' ∧ ∃ A' c', v' = .slice A' (n + 1) c' ∧ Hid (J1 w none x (l.take k ++ [x] ++ l.drop k) (.slice A' (n + 1) c') w')) := fun w1 A c h => by
    obtain ⟨v', w', h1, A', c', e, h2⟩ := h.app X2 m2 c2 (l.drop k) HL2.out HR2.out (by rw [HL3.out]; have := HN2.out; omega) (n + 1) HL4.out
    subst e
    exact ⟨_, w', h1, A', c', rfl, h2⟩
  clear h hn hrow2 hm2
  go_enter Tryz.func56, Tryz.ntmps56
  go_wp2
  go_region_law (first
    | (refine step_append_w w6 (by with_reducible rfl) (by rfl) (.tmp 14) (.tmp 17) 30 30 30 (by rfl) (by rfl) (.slice A6 (k + 1) c6) (.slice X2 m2 c2) (by rfl) (by rfl) _ HT3.out ?_
       rintro v3 w7 ⟨A7, c7, rfl, HFN⟩)
    | (refine step_append_w (w5.alloc (.cells #[.int .i64 x] 3)) (by with_reducible rfl) (by rfl) (.tmp 11) (.tmp 13) 30 30 30 (by rfl) (by rfl) (.slice A5 k c5) (.slice (some ⟨w5.heap.size, 0, none⟩) 1 1) (by rfl) (by rfl) _ HA2.out ?_
       rintro v2 w6 ⟨A6, c6, rfl, HF2⟩
       have HT3 := Lib.hid (HTHR.out _ _ _ HF2.out))
    | (refine step_append_w w5 (by with_reducible rfl) (by rfl) (.tmp 11) (.tmp 13) 30 30 30 (by rfl) (by rfl) (.slice A5 k c5) (.slice (some ⟨w.heap.size + 1, 0, none⟩) 1 1) (by rfl) (by rfl) _ HBB2.out ?_
       rintro v2 w6 ⟨A6, c6, rfl, HF2⟩
       have HT3 := Lib.hid (HTHR.out _ _ _ HF2.out))
    | (refine step_append_w w5 (by with_reducible rfl) (by rfl) (.tmp 11) (.tmp 13) 30 30 30 (by rfl) (by rfl) (.slice A5 k c5) (.slice (some ⟨w.heap.size, 0, none⟩) 1 1) (by rfl) (by rfl) _ HC2.out ?_
       rintro v2 w6 ⟨A6, c6, rfl, HF2⟩
       have HT3 := Lib.hid (HTHR.out _ _ _ HF2.out))
    | (refine step_append_w ((w.alloc (.cells #[] 3)).drew) (by with_reducible rfl) (by rfl) (.tmp 7) (.tmp 10) 30 30 30 (by rfl) (by rfl) (.slice (some ⟨w.heap.size, 0, none⟩) 0 0) (.slice A k c) (by rfl) (by rfl) _ HA1.out ?_
       rintro v1 w5 ⟨A5, c5, rfl, HF1⟩
       have HA2 := Lib.hid (HONE.out _ _ _ _ HF1.out.late))
    | (refine step_append_w (((w.alloc (.cells #[] 3)).alloc (.cells #[.int .i64 x] 3)).drew) (by with_reducible rfl) (by rfl) (.tmp 7) (.tmp 10) 30 30 30 (by rfl) (by rfl) (.slice (some ⟨w.heap.size, 0, none⟩) 0 0) (.slice A k c) (by rfl) (by rfl) _ HBB1.out ?_
       rintro v1 w5 ⟨A5, c5, rfl, HF1⟩
       have HBB2 := Lib.hid (HONE.out _ _ _ _ HF1.out))
    | (refine step_append_w (((w.alloc (.cells #[.int .i64 x] 3)).alloc (.cells #[] 3)).drew) (by with_reducible rfl) (by rfl) (.tmp 7) (.tmp 10) 30 30 30 (by rfl) (by rfl) (.slice (some ⟨w.heap.size + 1, 0, none⟩) 0 0) (.slice A k c) (by rfl) (by rfl) _ HC1.out ?_
       rintro v1 w5 ⟨A5, c5, rfl, HF1⟩
       have HC2 := Lib.hid (HONE.out _ _ _ _ HF1.out)))
  all_goals
    clear hsl1 hsl2
    go_wp2
    go_ret
    exact NewR.of (base := 0) HFN.out.own HL4.out HFN.out.bel
set_option maxHeartbeats 8000000 in
theorem dout_b (A : Option Addr) (n c k : Nat) (l : List Int) (w : World) (hn : l.length = n) (hnc : n ≤ c) (hk : k < n) (hn2 : n ≤ 20000) (h : IntsAt w A l) :
    Calls Tryz.prog 58 #[.slice A n c, .int .i64 (k : Int)] w (NewR w (Bt.out l k) (n - 1)) := by
  have HN := Lib.hid hn
  have HN2 := Lib.hid hn2
  have wr : IntKind.i64.wrap ((k : Int) + 1) = (k : Int) + 1 := by rw [IntKind.wrap_i64]; omega
  obtain ⟨X2, c2, hsl2, hrow2⟩ := back_is A n c (k + 1) hnc hk
  have hsl1 := front_is A n c k hnc (Nat.le_of_lt hk)
  obtain ⟨m2, hm2⟩ : ∃ m, n - (k + 1) = m := ⟨_, rfl⟩
  rw [hm2, show (((k + 1 : Nat) : Int)) = (k : Int) + 1 from rfl] at hsl2
  have HR1 : Hid (IntsAt w A (l.take k)) := h.take' k
  have HR2 : Hid (IntsAt w X2 (l.drop (k + 1))) := hrow2 w l hn h
  have HL1 : Hid ((l.take k).length = k) := by unfold Hid; rw [List.length_take, hn]; omega
  have HL2 : Hid ((l.drop (k + 1)).length = m2) := by unfold Hid; rw [List.length_drop, hn]; exact hm2
  have HL4 : Hid ((l.take k ++ l.drop (k + 1)).length = n - 1) := by unfold Hid; rw [List.length_append, HL1.out, HL2.out]; omega
  have HA1 : Hid (∃ v' w', (Builtin.append_ #[30, 30] 30 #[.slice (some ⟨w.heap.size, 0, none⟩) 0 0, .slice A k c]).run Tryz.prog ((w.alloc (.cells #[] 3)).drew) = .ok v' w' ∧ ∃ A' c', v' = .slice A' k c' ∧ Hid (J1 w none 0 (l.take k) (.slice A' k c') w')) := by
    obtain ⟨v', w', h1, A', c', e, h2⟩ := (J1.a w 0).app A k c (l.take k) HL1.out HR1.out (by simp; omega) k (by simpa using HL1.out)
    subst e
    exact ⟨_, w', h1, A', c', rfl, h2⟩
  have HTHR : Hid (∀ w1 A c, J1 w none 0 (l.take k) (.slice A k c) w1 → ∃ v' w', (Builtin.append_ #[30, 30] 30 #[.slice A k c, .slice X2 m2 c2]).run Tryz.prog w1 = .ok v' w' ∧ ∃ A' c', v' = .slice A' (n - 1) c' ∧ Hid (J1 w none 0 (l.take k ++ l.drop (k + 1)) (.slice A' (n - 1) c') w')) := fun w1 A c h => by
    obtain ⟨v', w', h1, A', c', e, h2⟩ := h.app X2 m2 c2 (l.drop (k + 1)) HL2.out HR2.out (by rw [HL1.out]; have := HN2.out; omega) (n - 1) HL4.out
    subst e
    exact ⟨_, w', h1, A', c', rfl, h2⟩
  have i1 : (k : Int) + 1 ≤ (n : Int) := by omega
  clear h hn hrow2 hm2
  go_enter Tryz.func58, Tryz.ntmps58
  go_wp2
  go_region_law (first
    | (refine step_append_w w5 (by with_reducible rfl) (by rfl) (.tmp 9) (.tmp 13) 30 30 30 (by rfl) (by rfl) (.slice A5 k c5) (.slice X2 m2 c2) (by rfl) (by rfl) _ HT3.out ?_
       rintro v3 w7 ⟨A7, c7, rfl, HFN⟩)
    | (refine step_append_w ((w.alloc (.cells #[] 3)).drew) (by with_reducible rfl) (by rfl) (.tmp 5) (.tmp 8) 30 30 30 (by rfl) (by rfl) (.slice (some ⟨w.heap.size, 0, none⟩) 0 0) (.slice A k c) (by rfl) (by rfl) _ HA1.out ?_
       rintro v1 w5 ⟨A5, c5, rfl, HF1⟩
       have HT3 := Lib.hid (HTHR.out _ _ _ HF1.out)))
  all_goals
    clear hsl1 hsl2
    go_wp2
    go_ret
    exact NewR.of (base := 0) HFN.out.own HL4.out HFN.out.bel
end Go.Proofs.YtgjmlnpfkmpfgaaGreat
