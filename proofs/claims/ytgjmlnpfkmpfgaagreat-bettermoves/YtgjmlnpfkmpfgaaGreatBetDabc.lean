/- Texts joined: The document's answer for better: a number put into a list, and one taken out. The document's answer for better: routes of their own. The document's answer for better: a plan of routes. -/
import Derived.Test.YtgjmlnpfkmpfgaaGreatBetRow
import Derived.Test.YtgjmlnpfkmpfgaaGreatMaths
import Derived.RegionTactic
import Derived.BigRegion
import Derived.Test.YtgjmlnpfkmpfgaaGreatPlanE
section
/-! The document's answer for better: a number put into a list, and one taken out. -/
namespace Go.Proofs.YtgjmlnpfkmpfgaaGreat
open Go.RowKit
set_option linter.unusedVariables false
set_option maxRecDepth 100000

/-- a new list of numbers of a call's own is told -/
def NewR (w : World) (l : List Int) (m : Nat) (e : Ending) (w' : World) : Prop := ∃ A c, e = .returned (.slice A m c) ∧ Hid (l.length = m ∧ m ≤ c ∧ Below w.heap.size w w' ∧ IntsAt w' A l ∧ ∀ ad, A = some ad → w.heap.size ≤ ad.block)
theorem NewR.of {w w' : World} {base n c : Nat} {A : Option Addr} {l : List Int} (h : OwnI w' w.heap.size (.slice A n c) l) (hl : l.length = n) (hb : Below w.heap.size w w') : NewR w l n (.returned (.slice A n c)) w' := by
  refine ⟨A, c, rfl, hl, ?_, hb, ?_, fun ad e => ?_⟩
  · obtain ⟨A', c', e, h1, _⟩ := h.ints
    injection e with e1 e2 e3
    omega
  · obtain ⟨A', c', e, _, _, h1⟩ := h.ints
    injection e with e1 e2 e3
    rw [e1]; exact h1
  · rcases h.2 with ⟨e1, _⟩ | ⟨g, cap, cur, e1, hg, _⟩
    · injection e1 with e1; rw [e1] at e; cases e
    · injection e1 with e1
      rw [e1] at e
      obtain rfl := Option.some.inj e
      exact hg
set_option maxHeartbeats 8000000 in
theorem dput_b (A : Option Addr) (n c k : Nat) (l : List Int) (x : Int) (w : World) (hn : l.length = n) (hnc : n ≤ c) (hk : k ≤ n) (hn2 : n ≤ 20000) (h : IntsAt w A l) :
    Calls Tryz.prog 56 #[.slice A n c, .int .i64 (k : Int), .int .i64 x] w (NewR w (Bt.put l k x) (n + 1)) := by
  have HN := Lib.hid hn
  have HN2 := Lib.hid hn2
  obtain ⟨X2, c2, hsl2, hrow2⟩ := back_is A n c k hnc hk
  have hsl1 := front_is A n c k hnc hk
  obtain ⟨m2, hm2⟩ : ∃ m, n - k = m := ⟨_, rfl⟩
  rw [hm2] at hsl2
  have HR1 : Hid (IntsAt w A (l.take k)) := h.take' k
  have HR2 : Hid (IntsAt w X2 (l.drop k)) := hrow2 w l hn h
  have HL1 : Hid ((l.take k).length = k) := by unfold Hid; rw [List.length_take, hn]; omega
  have HL2 : Hid ((l.drop k).length = m2) := by unfold Hid; rw [List.length_drop, hn]; exact hm2
  have HL3 : Hid ((l.take k ++ [x]).length = k + 1) := by unfold Hid; rw [List.length_append, HL1.out]; rfl
  have HL4 : Hid ((l.take k ++ [x] ++ l.drop k).length = n + 1) := by unfold Hid; rw [List.length_append, HL3.out, HL2.out]; omega
  have HA1 : Hid (∃ v' w', (Builtin.append_ #[30, 30] 30 #[.slice (some ⟨w.heap.size, 0, none⟩) 0 0, .slice A k c]).run Tryz.prog ((w.alloc (.cells #[] 3)).drew) = .ok v' w' ∧ ∃ A' c', v' = .slice A' k c' ∧ Hid (J1 w none x (l.take k) (.slice A' k c') w')) := by
    obtain ⟨v', w', h1, A', c', e, h2⟩ := (J1.a w x).app A k c (l.take k) HL1.out HR1.out (by simp; omega) k (by simpa using HL1.out)
    subst e
    exact ⟨_, w', h1, A', c', rfl, h2⟩
  have HBB1 : Hid (∃ v' w', (Builtin.append_ #[30, 30] 30 #[.slice (some ⟨w.heap.size, 0, none⟩) 0 0, .slice A k c]).run Tryz.prog (((w.alloc (.cells #[] 3)).alloc (.cells #[.int .i64 x] 3)).drew) = .ok v' w' ∧ ∃ A' c', v' = .slice A' k c' ∧ Hid (J1 w (some (w.heap.size + 1)) x (l.take k) (.slice A' k c') w')) := by
    obtain ⟨v', w', h1, A', c', e, h2⟩ := (J1.b w x).app A k c (l.take k) HL1.out HR1.out (by simp; omega) k (by simpa using HL1.out)
    subst e
    exact ⟨_, w', h1, A', c', rfl, h2⟩
  have HC1 : Hid (∃ v' w', (Builtin.append_ #[30, 30] 30 #[.slice (some ⟨w.heap.size + 1, 0, none⟩) 0 0, .slice A k c]).run Tryz.prog (((w.alloc (.cells #[.int .i64 x] 3)).alloc (.cells #[] 3)).drew) = .ok v' w' ∧ ∃ A' c', v' = .slice A' k c' ∧ Hid (J1 w (some w.heap.size) x (l.take k) (.slice A' k c') w')) := by
    obtain ⟨v', w', h1, A', c', e, h2⟩ := (J1.c w x).app A k c (l.take k) HL1.out HR1.out (by simp; omega) k (by simpa using HL1.out)
    subst e
    exact ⟨_, w', h1, A', c', rfl, h2⟩
  have HONE : Hid (∀ w1 g A c, J1 w (some g) x (l.take k) (.slice A k c) w1 → ∃ v' w', (Builtin.append_ #[30, 30] 30 #[.slice A k c, .slice (some ⟨g, 0, none⟩) 1 1]).run Tryz.prog w1 = .ok v' w' ∧ ∃ A' c', v' = .slice A' (k + 1) c' ∧ Hid (J1 w none x (l.take k ++ [x]) (.slice A' (k + 1) c') w')) := fun w1 g A c h => by
    obtain ⟨v', w', h1, A', c', e, h2⟩ := h.one (by rw [HL1.out]; have := HN2.out; omega) (k + 1) HL3.out
    subst e
    exact ⟨_, w', h1, A', c', rfl, h2⟩
  have HTHR : Hid (∀ w1 A c, J1 w none x (l.take k ++ [x]) (.slice A (k + 1) c) w1 → ∃ v' w', (Builtin.append_ #[30, 30] 30 #[.slice A (k + 1) c, .slice X2 m2 c2]).run Tryz.prog w1 = .ok v' w' ∧ ∃ A' c', v' = .slice A' (n + 1) c' ∧ Hid (J1 w none x (l.take k ++ [x] ++ l.drop k) (.slice A' (n + 1) c') w')) := fun w1 A c h => by
    obtain ⟨v', w', h1, A', c', e, h2⟩ := h.app X2 m2 c2 (l.drop k) HL2.out HR2.out (by rw [HL3.out]; have := HN2.out; omega) (n + 1) HL4.out
    subst e
    exact ⟨_, w', h1, A', c', rfl, h2⟩
  clear h hn hrow2 hm2
  go_enter Tryz.func56, Tryz.ntmps56
  go_wp2
  go_region_law (first
    | (refine step_append_w w6 (by with_reducible rfl) (by rfl) (.tmp 14) (.tmp 17) 30 30 30 (by rfl) (by rfl) (.slice A6 (k + 1) c6) (.slice X2 m2 c2) (by rfl) (by rfl) _ HT3.out ?_
       rintro v3 w7 ⟨A7, c7, rfl, HFN⟩)
    | (refine step_append_w (w5.alloc (.cells #[.int .i64 x] 3)) (by with_reducible rfl) (by rfl) (.tmp 11) (.tmp 13) 30 30 30 (by rfl) (by rfl) (.slice A5 k c5) (.slice (some ⟨w5.heap.size, 0, none⟩) 1 1) (by rfl) (by rfl) _ HA2.out ?_
       rintro v2 w6 ⟨A6, c6, rfl, HF2⟩
       have HT3 := Lib.hid (HTHR.out _ _ _ HF2.out))
    | (refine step_append_w w5 (by with_reducible rfl) (by rfl) (.tmp 11) (.tmp 13) 30 30 30 (by rfl) (by rfl) (.slice A5 k c5) (.slice (some ⟨w.heap.size + 1, 0, none⟩) 1 1) (by rfl) (by rfl) _ HBB2.out ?_
       rintro v2 w6 ⟨A6, c6, rfl, HF2⟩
       have HT3 := Lib.hid (HTHR.out _ _ _ HF2.out))
    | (refine step_append_w w5 (by with_reducible rfl) (by rfl) (.tmp 11) (.tmp 13) 30 30 30 (by rfl) (by rfl) (.slice A5 k c5) (.slice (some ⟨w.heap.size, 0, none⟩) 1 1) (by rfl) (by rfl) _ HC2.out ?_
       rintro v2 w6 ⟨A6, c6, rfl, HF2⟩
       have HT3 := Lib.hid (HTHR.out _ _ _ HF2.out))
    | (refine step_append_w ((w.alloc (.cells #[] 3)).drew) (by with_reducible rfl) (by rfl) (.tmp 7) (.tmp 10) 30 30 30 (by rfl) (by rfl) (.slice (some ⟨w.heap.size, 0, none⟩) 0 0) (.slice A k c) (by rfl) (by rfl) _ HA1.out ?_
       rintro v1 w5 ⟨A5, c5, rfl, HF1⟩
       have HA2 := Lib.hid (HONE.out _ _ _ _ HF1.out.late))
    | (refine step_append_w (((w.alloc (.cells #[] 3)).alloc (.cells #[.int .i64 x] 3)).drew) (by with_reducible rfl) (by rfl) (.tmp 7) (.tmp 10) 30 30 30 (by rfl) (by rfl) (.slice (some ⟨w.heap.size, 0, none⟩) 0 0) (.slice A k c) (by rfl) (by rfl) _ HBB1.out ?_
       rintro v1 w5 ⟨A5, c5, rfl, HF1⟩
       have HBB2 := Lib.hid (HONE.out _ _ _ _ HF1.out))
    | (refine step_append_w (((w.alloc (.cells #[.int .i64 x] 3)).alloc (.cells #[] 3)).drew) (by with_reducible rfl) (by rfl) (.tmp 7) (.tmp 10) 30 30 30 (by rfl) (by rfl) (.slice (some ⟨w.heap.size + 1, 0, none⟩) 0 0) (.slice A k c) (by rfl) (by rfl) _ HC1.out ?_
       rintro v1 w5 ⟨A5, c5, rfl, HF1⟩
       have HC2 := Lib.hid (HONE.out _ _ _ _ HF1.out)))
  all_goals
    clear hsl1 hsl2
    go_wp2
    go_ret
    exact NewR.of (base := 0) HFN.out.own HL4.out HFN.out.bel
set_option maxHeartbeats 8000000 in
theorem dout_b (A : Option Addr) (n c k : Nat) (l : List Int) (w : World) (hn : l.length = n) (hnc : n ≤ c) (hk : k < n) (hn2 : n ≤ 20000) (h : IntsAt w A l) :
    Calls Tryz.prog 58 #[.slice A n c, .int .i64 (k : Int)] w (NewR w (Bt.out l k) (n - 1)) := by
  have HN := Lib.hid hn
  have HN2 := Lib.hid hn2
  have wr : IntKind.i64.wrap ((k : Int) + 1) = (k : Int) + 1 := by rw [IntKind.wrap_i64]; omega
  obtain ⟨X2, c2, hsl2, hrow2⟩ := back_is A n c (k + 1) hnc hk
  have hsl1 := front_is A n c k hnc (Nat.le_of_lt hk)
  obtain ⟨m2, hm2⟩ : ∃ m, n - (k + 1) = m := ⟨_, rfl⟩
  rw [hm2, show (((k + 1 : Nat) : Int)) = (k : Int) + 1 from rfl] at hsl2
  have HR1 : Hid (IntsAt w A (l.take k)) := h.take' k
  have HR2 : Hid (IntsAt w X2 (l.drop (k + 1))) := hrow2 w l hn h
  have HL1 : Hid ((l.take k).length = k) := by unfold Hid; rw [List.length_take, hn]; omega
  have HL2 : Hid ((l.drop (k + 1)).length = m2) := by unfold Hid; rw [List.length_drop, hn]; exact hm2
  have HL4 : Hid ((l.take k ++ l.drop (k + 1)).length = n - 1) := by unfold Hid; rw [List.length_append, HL1.out, HL2.out]; omega
  have HA1 : Hid (∃ v' w', (Builtin.append_ #[30, 30] 30 #[.slice (some ⟨w.heap.size, 0, none⟩) 0 0, .slice A k c]).run Tryz.prog ((w.alloc (.cells #[] 3)).drew) = .ok v' w' ∧ ∃ A' c', v' = .slice A' k c' ∧ Hid (J1 w none 0 (l.take k) (.slice A' k c') w')) := by
    obtain ⟨v', w', h1, A', c', e, h2⟩ := (J1.a w 0).app A k c (l.take k) HL1.out HR1.out (by simp; omega) k (by simpa using HL1.out)
    subst e
    exact ⟨_, w', h1, A', c', rfl, h2⟩
  have HTHR : Hid (∀ w1 A c, J1 w none 0 (l.take k) (.slice A k c) w1 → ∃ v' w', (Builtin.append_ #[30, 30] 30 #[.slice A k c, .slice X2 m2 c2]).run Tryz.prog w1 = .ok v' w' ∧ ∃ A' c', v' = .slice A' (n - 1) c' ∧ Hid (J1 w none 0 (l.take k ++ l.drop (k + 1)) (.slice A' (n - 1) c') w')) := fun w1 A c h => by
    obtain ⟨v', w', h1, A', c', e, h2⟩ := h.app X2 m2 c2 (l.drop (k + 1)) HL2.out HR2.out (by rw [HL1.out]; have := HN2.out; omega) (n - 1) HL4.out
    subst e
    exact ⟨_, w', h1, A', c', rfl, h2⟩
  have i1 : (k : Int) + 1 ≤ (n : Int) := by omega
  clear h hn hrow2 hm2
  go_enter Tryz.func58, Tryz.ntmps58
  go_wp2
  go_region_law (first
    | (refine step_append_w w5 (by with_reducible rfl) (by rfl) (.tmp 9) (.tmp 13) 30 30 30 (by rfl) (by rfl) (.slice A5 k c5) (.slice X2 m2 c2) (by rfl) (by rfl) _ HT3.out ?_
       rintro v3 w7 ⟨A7, c7, rfl, HFN⟩)
    | (refine step_append_w ((w.alloc (.cells #[] 3)).drew) (by with_reducible rfl) (by rfl) (.tmp 5) (.tmp 8) 30 30 30 (by rfl) (by rfl) (.slice (some ⟨w.heap.size, 0, none⟩) 0 0) (.slice A k c) (by rfl) (by rfl) _ HA1.out ?_
       rintro v1 w5 ⟨A5, c5, rfl, HF1⟩
       have HT3 := Lib.hid (HTHR.out _ _ _ HF1.out)))
  all_goals
    clear hsl1 hsl2
    go_wp2
    go_ret
    exact NewR.of (base := 0) HFN.out.own HL4.out HFN.out.bel
end Go.Proofs.YtgjmlnpfkmpfgaaGreat
end

section
/-! The document's answer for better: routes of their own. -/
namespace Go.Proofs.YtgjmlnpfkmpfgaaGreat
open Go.RowKit
set_option linter.unusedVariables false
set_option maxRecDepth 100000

theorem OwnQ.lower {W : World} {a b : Nat} {v : Value} {l : List Rd} (h : OwnQ W b v l) (hab : a ≤ b) : OwnQ W a v l := by
  obtain ⟨h1, h2⟩ := h
  refine ⟨h1, ?_⟩
  rcases h2 with h2 | ⟨g, cap, cur, hv, hg, r⟩
  · exact .inl h2
  · exact .inr ⟨g, cap, cur, hv, Nat.le_trans hab hg, r⟩
/-- an append to such a row, and where that lies -/
theorem ownq_app_at {W : World} {base : Nat} {v : Value} {l : List Rd} (h : OwnQ W base v l) (hb : base ≤ W.heap.size) (A : Option Addr) (m c : Nat) (b : List Rd) (hm : b.length = m) (hby : RowsR W A b) (hs : l.length + m ≤ 100000) (M : Nat) (hM : (l ++ b).length = M) :
    ∃ v' w', (Builtin.append_ #[29, 29] 29 #[v, .slice A m c]).run Tryz.prog W = .ok v' w' ∧ (∃ A' c', v' = .slice A' M c') ∧ Hid (OwnQ w' base v' (l ++ b) ∧ Below base W w' ∧ (∀ k, k < W.heap.size → v.ownBlock ≠ some k → w'.heap[k]? = W.heap[k]?) ∧ W.heap.size ≤ w'.heap.size ∧ (v'.ownBlock = v.ownBlock ∨ v'.ownBlock = some W.heap.size)) := by
  obtain ⟨i0, hi0, hz0, hz1, hz2⟩ := info_parts4 route_info
  have hM' : l.length + m = M := by rw [← hM, List.length_append, hm]
  cases A with
  | none =>
    have hl0 : b = [] := by
      cases b with
      | nil => rfl
      | cons z b =>
        obtain ⟨ad, h1, _⟩ := hby 0 z rfl
        cases h1
    subst hl0
    obtain rfl : m = 0 := by simpa using hm.symm
    obtain rfl : l.length = M := by simpa using hM
    rw [List.append_nil]
    obtain ⟨A', c', e, _⟩ := h.row
    refine ⟨v, W, ?_, ⟨A', c', e⟩, h, Below.refl _ _, fun _ _ _ => rfl, Nat.le_refl _, .inl rfl⟩
    rcases h.2 with ⟨rfl, h0⟩ | ⟨g, cap, cur, rfl, _, _, hnc, _⟩
    · simp [Builtin.append_, run_underlying Tryz.underlying29, sizeOf, typeInfo, hi0, Builtin.lenOf, Builtin.firstCells]
    · simp [Builtin.append_, run_underlying Tryz.underlying29, sizeOf, typeInfo, hi0, Builtin.lenOf, Builtin.firstCells, hnc, storeCells]
  | some ad =>
    obtain ⟨v', w', h1, h2, h3, _, h5⟩ := run_append_own_at (P := Tryz.prog) W base 29 29 49 i0 _ 2 32 Tryz.underlying29 hi0 hz0 hz1 hz2 rfl (by omega) v l.length (rCells l) h ad m c (rCells b) (by rw [rc_len, hm])
      (fun j u hu => hby.cells hu) rc_one (by unfold maxLen; omega) (by omega) hb
    have ho : OwnQ w' base v' (l ++ b) := by unfold OwnQ; rw [List.length_append, hm, rc_app]; exact h2
    obtain ⟨A', c', e, _⟩ := ho.row
    rw [hM] at e
    refine ⟨v', w', h1, ⟨A', c', e⟩, ho, ?_, fun k hk hv => h3.block k hk (fun e => hv e.symm), h3.size, h5⟩
    exact ⟨h3.os, h3.tape, h3.output, h3.size, fun k hk => h3.block k (Nat.lt_of_lt_of_le hk hb) (fun e => by have := (h.lt k e.symm).1; omega)⟩

/-- routes of one's own, each wherever the row lies -/
structure QLs (W : World) (base : Nat) (v : Value) (l : List Rd) : Prop where
  own : OwnQ W base v l
  st : ∀ p ∈ l, St W base v.ownBlock fun W' => RAt W' p
  cp : ∀ p ∈ l, p.sm ≤ p.sc
theorem QLs.below {W W' : World} {base : Nat} {v : Value} {l : List Rd} (h : QLs W base v l) (hb : Below W.heap.size W W') : QLs W' base v l := ⟨h.own.below hb, fun p hp => (h.st p hp).below hb, h.cp⟩
theorem QLs.new0 (W : World) : QLs (W.alloc (.cells #[] 49)) W.heap.size (.slice (some ⟨W.heap.size, 0, none⟩) 0 0) [] := ⟨ownQ_none W _ (Nat.le_refl _), fun p hp => (by cases hp), fun p hp => (by cases hp)⟩
theorem QLs.lower {W : World} {a b : Nat} {v : Value} {l : List Rd} (h : QLs W b v l) (hab : a ≤ b) : QLs W a v l := ⟨h.own.lower hab, fun p hp => (h.st p hp).mono hab, h.cp⟩
/-- routes are appended -/
theorem QLs.app {W : World} {base : Nat} {v : Value} {l : List Rd} (h : QLs W base v l) (hb : base ≤ W.heap.size) (A : Option Addr) (m c : Nat) (b : List Rd) (hm : b.length = m) (hby : RowsR W A b) (hst : ∀ p ∈ b, St W base v.ownBlock fun W' => RAt W' p) (hcp : ∀ p ∈ b, p.sm ≤ p.sc) (hs : l.length + m ≤ 100000) (M : Nat) (hM : (l ++ b).length = M) :
    ∃ v' w', (Builtin.append_ #[29, 29] 29 #[v, .slice A m c]).run Tryz.prog W = .ok v' w' ∧ ∃ A' c', v' = .slice A' M c' ∧ Hid (QLs w' base (.slice A' M c') (l ++ b) ∧ Below base W w' ∧ Nw W w' v (.slice A' M c')) := by
  obtain ⟨v', w', h1, ⟨A', c', e⟩, h2⟩ := ownq_app_at h.own hb A m c b hm hby hs M hM
  subst e
  obtain ⟨o1, o2, o3, o4, o5⟩ := h2.out
  refine ⟨_, w', h1, A', c', rfl, ⟨o1, fun p hp => ?_, fun p hp => (List.mem_append.1 hp).elim (h.cp p) (hcp p)⟩, o2, o3, o5.imp id fun e => ⟨_, e, Nat.le_refl _⟩⟩
  have hp' : St W base v.ownBlock fun W' => RAt W' p := by
    rcases List.mem_append.1 hp with hp | hp
    · exact h.st p hp
    · exact hst p hp
  refine hp'.step (fun k _ hk hg => o3 k hk (fun e => hg e.symm)) (fun k h3 h4 h5 => ⟨h3, fun e => ?_⟩) o4
  rcases o5 with o5 | o5
  · exact h5 (e.trans o5)
  · rw [o5] at e
    injection e with e
    omega
/-- one route more, of what lies from a later block on -/
theorem QLs.one {W : World} {base lo n c : Nat} {A : Option Addr} {l : List Rd} (h : QLs W base (.slice A n c) l) (hn : l.length = n) (hb : base ≤ W.heap.size) (p : Rd) (hp : St W lo none fun W' => RAt W' p) (hcp : p.sm ≤ p.sc) (hlo : ∀ k, (Value.slice A n c).ownBlock = some k → k < lo) (hbl : base ≤ lo) (hs : n ≤ 50000) :
    ∃ v' w', (Builtin.append_ #[29, 29] 29 #[.slice A n c, .slice (some ⟨W.heap.size, 0, none⟩) 1 1]).run Tryz.prog (W.alloc (.cells #[.int .i64 p.tr, .slice p.sA p.sm p.sc] 49)) = .ok v' w' ∧ ∃ A' c', v' = .slice A' (n + 1) c' ∧ Hid (QLs w' base (.slice A' (n + 1) c') (l ++ [p]) ∧ Below base W w' ∧ Nw W w' (.slice A n c) (.slice A' (n + 1) c')) := by
  have hbel : Below W.heap.size W (W.alloc (.cells #[.int .i64 p.tr, .slice p.sA p.sm p.sc] 49)) := below_alloc _ _
  have hbx : Box (W.alloc (.cells #[.int .i64 p.tr, .slice p.sA p.sm p.sc] 49)) W.heap.size #[.int .i64 p.tr, .slice p.sA p.sm p.sc] 49 := Box.new W _ _
  have hrow : RowsR (W.alloc (.cells #[.int .i64 p.tr, .slice p.sA p.sm p.sc] 49)) (some ⟨W.heap.size, 0, none⟩) [p] := fun k s hk => by
    have hk0 : k = 0 := by have := (List.getElem?_eq_some_iff.1 hk).1; simp at this; exact this
    subst hk0
    obtain rfl : p = s := by simpa using hk
    refine ⟨_, rfl, ?_, ?_⟩
    · rw [add_flat]; exact hbx.cell 0 _ rfl
    · rw [add_flat]; exact hbx.cell 1 _ rfl
  obtain ⟨v', w', h1, A', c', e, h2⟩ := (h.below hbel).app (Nat.le_trans hb hbel.size) (some ⟨W.heap.size, 0, none⟩) 1 1 [p] rfl hrow (fun q hq => by
    obtain rfl := List.mem_singleton.1 hq
    exact ((hp.below hbel).out fun k e => .inl (hlo k e)).mono hbl) (fun q hq => by obtain rfl := List.mem_singleton.1 hq; exact hcp) (by omega) (n + 1) (by rw [List.length_append, hn]; rfl)
  exact ⟨v', w', h1, A', c', e, h2.out.1, (hbel.mono hb).trans h2.out.2.1, h2.out.2.2.pre hbel⟩

theorem J1.stay {V w : World} {xb : Option Nat} {x : Int} {n c : Nat} {A : Option Addr} {l : List Int} (h : J1 V xb x l (.slice A n c) w) : St w V.heap.size none fun W' => IntsAt W' A l := by
  obtain ⟨A', c', e, _, _, h1⟩ := h.own.ints
  injection e with e1 e2 e3
  subst e1
  refine St.ints h1 fun ad e => ⟨?_, by simp⟩
  rcases h.own.2 with ⟨e1, _⟩ | ⟨g, cap, cur, e1, hg, _⟩
  · injection e1 with e1; rw [e1] at e; cases e
  · injection e1 with e1
    rw [e1] at e
    obtain rfl := Option.some.inj e
    exact hg
theorem J1.cap {V w : World} {xb : Option Nat} {x : Int} {n c : Nat} {A : Option Addr} {l : List Int} (h : J1 V xb x l (.slice A n c) w) : n ≤ c := by
  obtain ⟨A', c', e, h1, _⟩ := h.own.ints
  injection e with e1 e2 e3
  omega
/-- routes while they are copied -/
structure CI (w : World) (rs : List Rd) (i : Nat) (v : Value) (l : List Rd) (W : World) : Prop where
  bel : Below w.heap.size w W
  q : QLs W w.heap.size v l
  eq : ros l = (ros rs).take i
  len : l.length = i
/-- what a call that copies routes leaves -/
def CopPost (w : World) (rs : List Rd) (n : Nat) (e : Ending) (w' : World) : Prop := ∃ (A : Option Addr) (c : Nat) (l : List Rd), e = .returned (.slice A n c) ∧ Hid (CI w rs n (.slice A n c) l w')
theorem ros_snoc (l : List Rd) (r : Rd) : ros (l ++ [r]) = ros l ++ [r.ro] := by unfold ros; simp
set_option maxHeartbeats 8000000 in
theorem dcopied_b (A : Option Addr) (n c : Nat) (rs : List Rd) (w : World) (hn : rs.length = n) (hn2 : n ≤ 1000) (hr : RowsR w A rs) (ha : ∀ r ∈ rs, RAt w r) :
    Calls Tryz.prog 55 #[.slice A n c] w (CopPost w rs n) := by
  have HN := Lib.hid hn
  have HR := Lib.hid hr
  have HA := Lib.hid ha
  have HC0 : Hid (CI w rs 0 (.slice (some ⟨w.heap.size, 0, none⟩) 0 0) [] (w.alloc (.cells #[] 49))) := ⟨below_alloc _ _, QLs.new0 w, rfl, rfl⟩
  clear hn hr ha
  go_enter Tryz.func55, Tryz.ntmps55
  go_wp2_with fail
  go_loopg [3, 4] n (fun gk s3 s4 Wx => ∃ (i cc : Nat) (B : Option Addr) (l : List Rd) (W : World), W = Wx ∧ i + gk = n ∧ s3 = .slice B i cc ∧ s4 = .int .i64 i ∧ Hid (CI w rs i (.slice B i cc) l W))
  case atStart => exact ⟨0, 0, _, [], _, rfl, by omega, rfl, rfl, HC0.out⟩
  case round =>
    clear HC0
    obtain ⟨i, cc, B, l, W, rfl, hig, rfl, rfl, HCI⟩ := hrel
    by_cases hlt : i < n
    · obtain ⟨gk, rfl⟩ : ∃ j, gk = j + 1 := ⟨gk - 1, by omega⟩
      obtain ⟨r, hrr⟩ := mlist_at rs i (by rw [HN.out]; exact hlt)
      obtain ⟨ad, hA, hz0, hz1⟩ := HR.out i r hrr
      have HRR := Lib.hid hrr
      have HRA := Lib.hid ((HA.out r (List.mem_of_getElem? hrr)).below HCI.out.bel)
      have HZ : Hid (∀ U, Below w.heap.size w U → U.cell? (ad.add (i * 2)) = some (.int .i64 r.tr) ∧ U.cell? ⟨(ad.add (i * 2)).block, (ad.add (i * 2)).off + 1, none⟩ = some (.slice r.sA r.sm r.sc)) := fun U hU => ⟨by rw [hU.cell (p := ad.add (i * 2)) (lt_of_cell hz0)]; exact hz0, by rw [hU.cell (p := ⟨(ad.add (i * 2)).block, (ad.add (i * 2)).off + 1, none⟩) (lt_of_cell hz1)]; exact hz1⟩
      have i2 : (i : Int) < (n : Int) := by omega
      have hs2 := HRA.out.s2
      have HA1 : Hid (∃ v' w', (Builtin.append_ #[30, 30] 30 #[.slice (some ⟨W.heap.size, 0, none⟩) 0 0, .slice r.sA r.sm r.sc]).run Tryz.prog ((W.alloc (.cells #[] 3)).drew) = .ok v' w' ∧ ∃ A5 c5, v' = .slice A5 r.sm c5 ∧ Hid (J1 W none 0 r.st (.slice A5 r.sm c5) w')) := by
        obtain ⟨v', w', h1, A', c', e, h2⟩ := (J1.a W 0).app r.sA r.sm r.sc r.st HRA.out.sl HRA.out.st (by simp; omega) r.sm (by simpa using HRA.out.sl)
        subst e
        exact ⟨_, w', h1, A', c', rfl, h2⟩
      have HA2 : Hid (∀ (w5 : World) (A5 : Option Addr) (c5 : Nat), J1 W none 0 r.st (.slice A5 r.sm c5) w5 → ∃ v' w', (Builtin.append_ #[29, 29] 29 #[.slice B i cc, .slice (some ⟨w5.heap.size, 0, none⟩) 1 1]).run Tryz.prog (w5.alloc (.cells #[.int .i64 r.tr, .slice A5 r.sm c5] 49)) = .ok v' w' ∧ ∃ B1 c1 l1, v' = .slice B1 (i + 1) c1 ∧ Hid (CI w rs (i + 1) (.slice B1 (i + 1) c1) l1 w')) := fun w5 A5 c5 hj => by
        have hb5 := hj.bel
        have hbw : Below w.heap.size w w5 := below_next HCI.out.bel hb5
        obtain ⟨v', w', h1, B1, c1, rfl, h2⟩ := (HCI.out.q.below hb5).one HCI.out.len hbw.size ⟨r.tr, A5, r.sm, c5, r.st⟩ (hj.stay.imp fun W' h => ⟨HRA.out.sl, hs2, h⟩) hj.cap (fun k e => (HCI.out.q.own.lt k e).2) HCI.out.bel.size (by omega)
        refine ⟨_, w', h1, B1, c1, _, rfl, hbw.trans h2.out.2.1, h2.out.1, ?_, by rw [List.length_append, HCI.out.len]; rfl⟩
        rw [ros_snoc, HCI.out.eq, Ar.take_snoc _ _ _ (ros_at HRR.out)]
        rfl
      have HY5 : Hid (∀ (w5 : World) (A5 : Option Addr) (c5 : Nat), J1 W none 0 r.st (.slice A5 r.sm c5) w5 → w5.cell? (ad.add (i * 2)) = some (.int .i64 r.tr)) := fun w5 A5 c5 hj => (HZ.out w5 (below_next HCI.out.bel hj.bel)).1
      obtain rfl := hA
      clear hrr hz0 hz1
      go_upto_region 5 with fail
      obtain ⟨z0, z1⟩ := HZ.out W HCI.out.bel
      obtain ⟨y0, y1⟩ := HZ.out (W.alloc (.cells #[] 3)) (below_next HCI.out.bel (below_alloc W (.cells #[] 3)))
      go_region_law (first
        | (refine step_append_w (w5.alloc (.cells #[.int .i64 r.tr, .slice A5 r.sm c5] 49)) (by with_reducible rfl) (by rfl) (.tmp 12) (.tmp 26) 29 29 29 (by rfl) (by rfl) (.slice B i cc) (.slice (some ⟨w5.heap.size, 0, none⟩) 1 1) (by rfl) (by rfl) _ HAP.out ?_
           rintro v2 w6 ⟨B1, c1, l1, rfl, HF⟩)
        | (refine step_append_w ((W.alloc (.cells #[] 3)).drew) (by with_reducible rfl) (by rfl) (.tmp 18) (.tmp 23) 30 30 30 (by rfl) (by rfl) (.slice (some ⟨W.heap.size, 0, none⟩) 0 0) (.slice r.sA r.sm r.sc) (by rfl) (by rfl) _ HA1.out ?_
           rintro v1 w5 ⟨A5, c5, rfl, HJ⟩
           have HAP := Lib.hid (HA2.out _ _ _ HJ.out)
           have t5 := HY5.out _ _ _ HJ.out))
      all_goals
        clear z0 z1 y0 y1
        go_wp2
        go_roundg gk
        case measure => omega
        case rel => exact ⟨i + 1, c1, B1, l1, _, rfl, by omega, by first | rfl | go_num, by first | rfl | go_num, HF.out⟩
    · obtain rfl : i = n := by omega
      go_wp2
      go_ret
      exact ⟨B, cc, l, rfl, HCI.out⟩
end Go.Proofs.YtgjmlnpfkmpfgaaGreat
end

section
/-! The document's answer for better: a plan of routes. -/
namespace Bt
open Pl
theorem stops_made (rs : List Ro) : stops (made rs) = stops rs := by
  induction rs with
  | nil => rfl
  | cons r l ih =>
    have h1 : made (r :: l) = if 0 < r.st.length then r :: made l else made l := by
      unfold made
      rw [List.filter_cons]
      by_cases h : 0 < r.st.length
      · rw [if_pos (decide_eq_true h), if_pos h]
      · rw [if_neg (by simpa using h), if_neg h]
    have h2 : stops (r :: l) = r.st ++ stops l := by unfold stops; simp
    rw [h1, h2]
    by_cases h : 0 < r.st.length
    · rw [if_pos h]
      have h3 : stops (r :: made l) = r.st ++ stops (made l) := by unfold stops; simp
      rw [h3, ih]
    · rw [if_neg h, ih, List.eq_nil_of_length_eq_zero (Nat.eq_zero_of_not_pos h)]
      rfl
theorem made_le (rs : List Ro) : (made rs).length ≤ rs.length := List.length_filter_le _ _
theorem made_take {rs : List Ro} {k : Nat} {r : Ro} (h : rs[k]? = some r) : made (rs.take (k + 1)) = if 0 < r.st.length then made (rs.take k) ++ [r] else made (rs.take k) := by
  rw [Ar.take_snoc _ _ _ h, made_snoc]
end Bt
namespace Go.Proofs.YtgjmlnpfkmpfgaaGreat
open Go.RowKit
set_option linter.unusedVariables false
set_option maxRecDepth 100000

/-- what is known while a plan of routes is made -/
structure MI (w : World) (b1 : Nat) (x : Wd) (rs : List Rd) (i : Nat) (rA : Option Addr) (rm rc : Nat) (l : List Rd) (W : World) : Prop where
  bel : Below w.heap.size w W
  wx : WX W b1 x
  res : Box W (b1 + 1) #[.slice none 0 0, .slice none 0 0] 32
  pb : Box W (b1 + 2) #[.slice rA rm rc, .slice none 0 0] 32
  q : OwnQ W (b1 + 3) (.slice rA rm rc) l
  sub : ∀ r ∈ l, r ∈ rs
  eq : ros l = Bt.made ((ros rs).take i)
  rl : l.length = rm
  wb : w.heap.size = b1
theorem MI.below {w W W' : World} {b1 i rm rc : Nat} {x : Wd} {rs l : List Rd} {rA : Option Addr} (h : MI w b1 x rs i rA rm rc l W) (hb : Below W.heap.size W W') : MI w b1 x rs i rA rm rc l W' :=
  ⟨below_next h.bel hb, h.wx.below hb, h.res.below hb, h.pb.below hb, h.q.below hb, h.sub, h.eq, h.rl, h.wb⟩
/-- a route with stops is stored -/
theorem MI.put {w W W2 : World} {b1 i rm rc rc' : Nat} {x : Wd} {rs l : List Rd} {rA rA' : Option Addr} (h : MI w b1 x rs i rA rm rc l W) {r : Rd} (hr : rs[i]? = some r) (hs : 0 < r.st.length) (hb : Below (b1 + 3) W W2) (ho : OwnQ W2 (b1 + 3) (.slice rA' (rm + 1) rc') (l ++ [r])) (hx : WAt w x) :
    MI w b1 x rs (i + 1) rA' (rm + 1) rc' (l ++ [r]) (W2.setCell ⟨b1 + 2, 0, none⟩ (.slice rA' (rm + 1) rc')) := by
  have hwb := h.wb
  have hbel : Below w.heap.size w (W2.setCell ⟨b1 + 2, 0, none⟩ (.slice rA' (rm + 1) rc')) := (h.bel.trans (hb.mono (by omega))).setCell (p := ⟨b1 + 2, 0, none⟩) (by show w.heap.size ≤ b1 + 2; omega) _
  have hk : ∀ k, k ≠ b1 + 2 → (W2.setCell ⟨b1 + 2, 0, none⟩ (.slice rA' (rm + 1) rc')).heap[k]? = W2.heap[k]? := fun k hk => Go.Deep.blk_setCell_other _ _ _ _ hk
  refine ⟨hbel, ⟨?_, ?_⟩, (hk _ (by omega)).trans (h.res.old hb (by omega)), (h.pb.old hb (by omega)).set 0 _ _ rfl, ho.put fun k h1 _ => hk k (by omega), fun s hs' => ?_, ?_, by rw [List.length_append, h.rl]; rfl, hwb⟩
  · exact (hk _ (by omega)).trans (h.wx.box.old hb (by omega))
  · exact hx.below hbel
  · rcases List.mem_append.1 hs' with h1 | h1
    · exact h.sub s h1
    · rw [List.mem_singleton.1 h1]; exact List.mem_of_getElem? hr
  · rw [ros_snoc, h.eq, Bt.made_take (ros_at hr), if_pos (show 0 < r.ro.st.length from hs)]

/-- what a call that makes a plan of routes leaves -/
def MadePost (w : World) (x : Wd) (rs : List Rd) (lo : Nat) (e : Ending) (w' : World) : Prop := ∃ p : Pd, e = .returned (.agg #[.slice p.rA p.rm p.rc, .slice p.uA p.um p.uc]) ∧ Hid (Below w.heap.size w w' ∧ ros p.rs = Bt.made (ros rs) ∧ p.us = Pl.restS x.os (ros p.rs) ∧ (St w' lo none fun W' => PAt W' p) ∧ ∀ r ∈ p.rs, r ∈ rs)
set_option maxHeartbeats 8000000 in
theorem dmade_b (x : Wd) (A : Option Addr) (n c : Nat) (rs : List Rd) (w : World) (lo : Nat) (hlo : lo ≤ w.heap.size) (hx : WAt w x) (hn : rs.length = n) (hn2 : n ≤ 1000) (hr : RowsR w A rs) (ha : ∀ r ∈ rs, St w lo none fun W' => RAt W' r) (htot : (Pl.stops (ros rs)).length ≤ 10000) :
    Calls Tryz.prog 57 #[.agg #[.int .i64 x.N, .slice x.dA x.dm x.dc, .slice x.tA x.tm x.tc, .slice x.A x.m x.c, .slice x.B x.k x.d], .slice A n c] w (MadePost w x rs lo) := by
  have HWA := Lib.hid hx
  have HN := Lib.hid hn
  have HR := Lib.hid hr
  have HA := Lib.hid ha
  have HLO := Lib.hid hlo
  have HTOT := Lib.hid htot
  have HMI0 : Hid (MI w w.heap.size x rs 0 none 0 0 [] (((w.alloc (.cells #[.int .i64 x.N, .slice x.dA x.dm x.dc, .slice x.tA x.tm x.tc, .slice x.A x.m x.c, .slice x.B x.k x.d] 28)).alloc (.cells #[.slice none 0 0, .slice none 0 0] 32)).alloc (.cells #[.slice none 0 0, .slice none 0 0] 32))) := by
    have e1 : (w.alloc (.cells #[.int .i64 x.N, .slice x.dA x.dm x.dc, .slice x.tA x.tm x.tc, .slice x.A x.m x.c, .slice x.B x.k x.d] 28)).heap.size = w.heap.size + 1 := by simp
    have e2 : ((w.alloc (.cells #[.int .i64 x.N, .slice x.dA x.dm x.dc, .slice x.tA x.tm x.tc, .slice x.A x.m x.c, .slice x.B x.k x.d] 28)).alloc (.cells #[.slice none 0 0, .slice none 0 0] 32)).heap.size = w.heap.size + 2 := by simp
    refine ⟨below_more (below_more (below_alloc _ _) _) _, ((WX.new hx).below (below_alloc _ _)).below (below_alloc _ _), ?_, ?_, ownQ_nil _ _, (fun r h => by cases h), rfl, rfl, rfl⟩
    · rw [← e1]; exact (Box.new _ _ _).below (below_alloc _ _)
    · rw [← e2]; exact Box.new _ _ _
  clear hx hn hr ha hlo htot
  go_enter Tryz.func57, Tryz.ntmps57
  go_wp2_with fail
  generalize (((w.alloc (.cells #[.int .i64 x.N, .slice x.dA x.dm x.dc, .slice x.tA x.tm x.tc, .slice x.A x.m x.c, .slice x.B x.k x.d] 28)).alloc (.cells #[.slice none 0 0, .slice none 0 0] 32)).alloc (.cells #[.slice none 0 0, .slice none 0 0] 32)) = V at *
  generalize hb1 : w.heap.size = b1 at HMI0 ⊢
  have HBE := Lib.hid hb1
  clear hb1
  go_loopg [6] n (fun gk s6 Wx => ∃ (i : Nat) (rA : Option Addr) (rm rc : Nat) (l : List Rd) (W : World), W = Wx ∧ i + gk = n ∧ s6 = .int .i64 i ∧ Hid (MI w b1 x rs i rA rm rc l W) ∧ Hid (rm ≤ i))
  case atStart => exact ⟨0, none, 0, 0, [], _, rfl, by omega, rfl, HMI0.out, Nat.le_refl _⟩
  case round =>
    clear HMI0
    obtain ⟨i, rA, rm, rc, l, W, rfl, hig, rfl, HMI, HRM⟩ := hrel
    have hrm := HRM.out
    by_cases hlt : i < n
    · obtain ⟨gk, rfl⟩ : ∃ j, gk = j + 1 := ⟨gk - 1, by omega⟩
      obtain ⟨r, hrr⟩ := mlist_at rs i (by rw [HN.out]; exact hlt)
      obtain ⟨ad, hA, hz0, hz1⟩ := HR.out i r hrr
      have HRR := Lib.hid hrr
      have HRA : Hid (RAt w r) := (HA.out r (List.mem_of_getElem? hrr)).now
      have HZ : Hid (∀ U, Below w.heap.size w U → U.cell? (ad.add (i * 2)) = some (.int .i64 r.tr) ∧ U.cell? ⟨(ad.add (i * 2)).block, (ad.add (i * 2)).off + 1, none⟩ = some (.slice r.sA r.sm r.sc)) := fun U hU => ⟨by rw [hU.cell (p := ad.add (i * 2)) (lt_of_cell hz0)]; exact hz0, by rw [hU.cell (p := ⟨(ad.add (i * 2)).block, (ad.add (i * 2)).off + 1, none⟩) (lt_of_cell hz1)]; exact hz1⟩
      have i2 : (i : Int) < (n : Int) := by omega
      obtain ⟨z0, z1⟩ := HZ.out W HMI.out.bel
      obtain rfl := hA
      clear hrr hz0 hz1
      by_cases hs : 0 < r.sm
      · have d1 : decide ((0 : Int) < (r.sm : Int)) = true := decide_eq_true (by omega)
        have d2 : decide (0 < r.sm) = true := decide_eq_true hs
        have HS : Hid (0 < r.st.length) := by unfold Hid; rw [HRA.out.sl]; exact hs
        have HAP : Hid (∃ v' w', (Builtin.append_ #[29, 29] 29 #[.slice rA rm rc, .slice (some ⟨W.heap.size, 0, none⟩) 1 1]).run Tryz.prog ((W.alloc (.cells #[.int .i64 r.tr, .slice r.sA r.sm r.sc] 49)).drew) = .ok v' w' ∧ ∃ A' c', v' = .slice A' (rm + 1) c' ∧ (∃ z, w'.cell? ⟨b1 + 1 + 1, 0, none⟩ = some z) ∧ w'.frozen? ⟨b1 + 1 + 1, 0, none⟩ = false ∧ Hid (MI w b1 x rs (i + 1) A' (rm + 1) c' (l ++ [r]) (w'.setCell ⟨b1 + 1 + 1, 0, none⟩ (.slice A' (rm + 1) c')))) := by
          have hbel : Below W.heap.size W ((W.alloc (.cells #[.int .i64 r.tr, .slice r.sA r.sm r.sc] 49)).drew) := (below_alloc _ _).drew
          have hbx : Box ((W.alloc (.cells #[.int .i64 r.tr, .slice r.sA r.sm r.sc] 49)).drew) W.heap.size #[.int .i64 r.tr, .slice r.sA r.sm r.sc] 49 := Box.new W _ _
          have hrow : RowsR ((W.alloc (.cells #[.int .i64 r.tr, .slice r.sA r.sm r.sc] 49)).drew) (some ⟨W.heap.size, 0, none⟩) [r] := fun k s hk => by
            have hk0 : k = 0 := by have := (List.getElem?_eq_some_iff.1 hk).1; simp at this; exact this
            subst hk0
            obtain rfl : r = s := by simpa using hk
            refine ⟨_, rfl, ?_, ?_⟩
            · rw [add_flat]; exact hbx.cell 0 _ rfl
            · rw [add_flat]; exact hbx.cell 1 _ rfl
          obtain ⟨v', w', h1, A', c', rfl, h2⟩ := ownq_app (HMI.out.q.below hbel) (Nat.le_trans HMI.out.pb.lt hbel.size) (some ⟨W.heap.size, 0, none⟩) 1 1 [r] rfl hrow (by rw [HMI.out.rl]; omega) (rm + 1) (by rw [List.length_append, HMI.out.rl]; rfl)
          have hb2 : Below (b1 + 3) W w' := (hbel.mono HMI.out.pb.lt).trans h2.out.2
          have hpb := HMI.out.pb.old hb2 (by omega)
          exact ⟨_, w', h1, A', c', rfl, ⟨_, hpb.cell 0 _ rfl⟩, hpb.fz 0, HMI.out.put HRR.out HS.out hb2 h2.out.1 HWA.out⟩
        have p0 : W.cell? ⟨b1 + 1 + 1, 0, none⟩ = some (.slice rA rm rc) := HMI.out.pb.cell 0 _ rfl
        have p0a : (W.alloc (.cells #[.int .i64 r.tr, .slice r.sA r.sm r.sc] 49)).cell? ⟨b1 + 1 + 1, 0, none⟩ = some (.slice rA rm rc) := (HMI.out.pb.below (below_alloc W (.cells #[.int .i64 r.tr, .slice r.sA r.sm r.sc] 49))).cell 0 _ rfl
        obtain ⟨y0, y1⟩ := HZ.out (W.alloc (.cells #[.int .i64 r.tr, .slice r.sA r.sm r.sc] 49)) (below_next HMI.out.bel (below_alloc W (.cells #[.int .i64 r.tr, .slice r.sA r.sm r.sc] 49)))
        clear hs
        go_wp2
        go_region_law (first
          | (refine step_append_w ((W.alloc (.cells #[.int .i64 r.tr, .slice r.sA r.sm r.sc] 49)).drew) (by with_reducible rfl) (by rfl) (.tmp 22) (.tmp 27) 29 29 29 (by rfl) (by rfl) (.slice rA rm rc) (.slice (some ⟨W.heap.size, 0, none⟩) 1 1) (by rfl) (by rfl) _ HAP.out ?_
             rintro v2 w6 ⟨A6, c6, rfl, ⟨zz, u1⟩, u2, u3⟩))
        all_goals
          clear z0 z1 y0 y1 p0 p0a u1 u2 HAP
          go_wp2
          go_roundg gk
          case measure => omega
          case rel => exact ⟨i + 1, A6, rm + 1, c6, l ++ [r], _, rfl, by omega, by first | rfl | go_num, u3.out, Nat.succ_le_succ hrm⟩
      · have d1 : decide ((0 : Int) < (r.sm : Int)) = false := decide_eq_false (by omega)
        have d2 : decide (0 < r.sm) = false := decide_eq_false hs
        have HMI2 : Hid (MI w b1 x rs (i + 1) rA rm rc l W) := ⟨HMI.out.bel, HMI.out.wx, HMI.out.res, HMI.out.pb, HMI.out.q, HMI.out.sub, by rw [HMI.out.eq, Bt.made_take (ros_at HRR.out), if_neg (by show ¬ 0 < r.st.length; rw [HRA.out.sl]; exact hs)], HMI.out.rl, HMI.out.wb⟩
        clear hs
        go_wp2
        go_roundg gk
        case measure => omega
        case rel => exact ⟨i + 1, rA, rm, rc, l, _, rfl, by omega, by first | rfl | go_num, HMI2.out, Nat.le_succ_of_le hrm⟩
    · obtain rfl : i = n := by omega
      have HEQ : Hid (ros l = Bt.made (ros rs)) := by
        unfold Hid
        rw [HMI.out.eq, List.take_of_length_le (by rw [ros_len, HN.out]; exact Nat.le_refl _)]
      have HST : Hid ((Pl.stops (ros l)).length ≤ 10000) := by unfold Hid; rw [HEQ.out, Bt.stops_made]; exact HTOT.out
      have HROW : Hid (∀ W', OwnQ W' (b1 + 3) (.slice rA rm rc) l → RowsR W' rA l ∧ ∀ ad, rA = some ad → b1 + 3 ≤ ad.block) := fun W' h => by
        obtain ⟨A', c', e, _, _, h2, h3⟩ := h.row
        injection e with e1 _ _
        rw [e1]
        exact ⟨h2, fun ad e => (h3 ad e).1⟩
      have HP0 : Hid (PAt W ⟨rA, rm, rc, l, none, 0, 0, []⟩) := ⟨HMI.out.rl, by show rm ≤ 1000; omega, (HROW.out W HMI.out.q).1, fun r hr => ((HA.out r (HMI.out.sub r hr)).below HMI.out.bel).now, HST.out, rfl, by show 0 ≤ 1000; omega, IntsAt.nil _ _⟩
      have HRS := Lib.hid (drest_b x ⟨rA, rm, rc, l, none, 0, 0, []⟩ W HMI.out.wx.at_ HP0.out)
      have x0 := HMI.out.wx.c0
      have x1 := HMI.out.wx.c1
      have x2 := HMI.out.wx.c2
      have x3 := HMI.out.wx.c3
      have x4 := HMI.out.wx.c4
      have p0 : W.cell? ⟨b1 + 1 + 1, 0, none⟩ = some (.slice rA rm rc) := HMI.out.pb.cell 0 _ rfl
      have p1 : W.cell? ⟨b1 + 1 + 1, 1, none⟩ = some (.slice none 0 0) := HMI.out.pb.cell 1 _ rfl
      go_wp2_with fail
      clear x0 x1 x2 x3 x4 p0 p1
      with_reducible refine HRS.out.mono ?_
      rintro e W9 ⟨uA, uc, rfl, huc, h9⟩
      have HM9 := Lib.hid (HMI.out.below h9.out.1)
      have HU := Lib.hid h9.out.2.1
      have HUB : Hid (∀ ad, uA = some ad → b1 + 3 ≤ ad.block) := fun ad e => Nat.le_trans HMI.out.pb.lt (h9.out.2.2 ad e).1
      obtain ⟨un, hun⟩ : ∃ n, (Pl.restS x.os (ros l)).length = n := ⟨_, rfl⟩
      have HUN : Hid ((Pl.restS x.os (ros l)).length = un ∧ un ≤ 1000) := ⟨hun, by
        have h1 := Pl.restS_len x.os (ros l)
        have h2 := HWA.out.ml
        have h3 := HWA.out.m2
        omega⟩
      rw [show (Pl.restS x.os (ros (Pd.rs ⟨rA, rm, rc, l, none, 0, 0, []⟩))).length = un from hun]
      have HB10 : Hid (Box (W9.setCell ⟨b1 + 1 + 1, 1, none⟩ (.slice uA un uc)) (b1 + 1 + 1) #[.slice rA rm rc, .slice uA un uc] 32) := HM9.out.pb.set 1 _ _ rfl
      have HR10 : Hid (Box (W9.setCell ⟨b1 + 1 + 1, 1, none⟩ (.slice uA un uc)) (b1 + 1) #[.slice none 0 0, .slice none 0 0] 32) := (Go.Deep.blk_setCell_other _ _ _ _ (by show b1 + 1 ≠ b1 + 1 + 1; omega)).trans HM9.out.res
      have HLE : Hid (w.heap.size ≤ b1) := by rw [HBE.out]; exact Nat.le_refl _
      have HB11 : Hid (Below w.heap.size w (W9.setCell ⟨b1 + 1 + 1, 1, none⟩ (.slice uA un uc))) := HM9.out.bel.setCell (p := ⟨b1 + 1 + 1, 1, none⟩) (by have := HLE.out; show w.heap.size ≤ b1 + 1 + 1; omega) _
      have y1 : W9.cell? ⟨b1 + 1 + 1, 1, none⟩ = some (.slice none 0 0) := HM9.out.pb.cell 1 _ rfl
      have y2 : W9.frozen? ⟨b1 + 1 + 1, 1, none⟩ = false := HM9.out.pb.fz 1
      have z0 := HB10.out.cell 0 _ rfl
      have z1 := HB10.out.cell 1 _ rfl
      have r0 := HR10.out.cell 0 _ rfl
      have r1 := HR10.out.cell 1 _ rfl
      have q0 := HR10.out.fz 0
      have q1 := HR10.out.fz 1
      clear hun h9 HRS huc
      go_wp2
      have hbw := below_set2 HB11.out (b1 + 1) (by have := HLE.out; omega) (.slice rA rm rc) (.slice uA un uc)
      refine bodyPost_ret (results_plan rfl _ (plan_set HR10.out _ _) rfl rfl) rfl ⟨⟨rA, rm, rc, l, uA, un, uc, Pl.restS x.os (ros l)⟩, rfl, hbw, HEQ.out, rfl, ?_, HMI.out.sub⟩
      have hk : ∀ j, b1 + 3 ≤ j → (((W9.setCell ⟨b1 + 1 + 1, 1, none⟩ (.slice uA un uc)).setCell ⟨b1 + 1, 0, none⟩ (.slice rA rm rc)).setCell ⟨b1 + 1, 1, none⟩ (.slice uA un uc)).heap[j]? = W9.heap[j]? := fun j hj =>
        (but_set2 _ (b1 + 1) _ _ j (by omega)).trans (Go.Deep.blk_setCell_other _ _ _ _ (by show j ≠ b1 + 1 + 1; omega))
      have hsz : W9.heap.size ≤ (((W9.setCell ⟨b1 + 1 + 1, 1, none⟩ (.slice uA un uc)).setCell ⟨b1 + 1, 0, none⟩ (.slice rA rm rc)).setCell ⟨b1 + 1, 1, none⟩ (.slice uA un uc)).heap.size := by
        rw [Go.Deep.nblk_setCell, Go.Deep.nblk_setCell, Go.Deep.nblk_setCell]; exact Nat.le_refl _
      have hl3 : lo ≤ b1 + 3 := by have h1 := HLO.out; have h2 := HBE.out; omega
      have s1 := ((St.rows (g := none) (HROW.out W9 HM9.out.q).1 fun ad e => ⟨(HROW.out W9 HM9.out.q).2 ad e, by simp⟩).step (fun j h1 _ _ => hk j h1) (fun j h1 _ h2 => ⟨h1, h2⟩) hsz).mono hl3
      have s2 := ((St.ints (g := none) HU.out fun ad e => ⟨HUB.out ad e, by simp⟩).step (fun j h1 _ _ => hk j h1) (fun j h1 _ h2 => ⟨h1, h2⟩) hsz).mono hl3
      exact fun W2 ha => ⟨HM9.out.rl, by show rm ≤ 1000; omega, s1 W2 ha, fun r hr => ((HA.out r (HMI.out.sub r hr)).below hbw) W2 ha, HST.out, HUN.out.1, HUN.out.2, s2 W2 ha⟩
end Go.Proofs.YtgjmlnpfkmpfgaaGreat
end
