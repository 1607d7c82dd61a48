/- Texts joined: What the library's small functions leave: cmp. Rows of rows as they lie in memory; a row of rows of one's own. -/
import Derived.Test.YtjidelfpmlnhkaaGreatMems
import Derived.Test.YtjidelfpmlnhkaaGreatAreas
import Derived.Test.YtjidelfpmlnhkaaGreatMaths
import Derived.Test.YtjidelfpmlnhkaaGreatRouteMem
section
/-! What the library's small functions leave: cmp.Compare, cmp.Or, slices.Compare of two rows of one order; the closure by which rows are sorted. -/
namespace Go.Proofs.YtjidelfpmlnhkaaGreat
open Go.RowKit
set_option linter.unusedVariables false
set_option maxRecDepth 100000

def cmpI (a b : Int) : Int := if a < b then -1 else if b < a then 1 else 0
theorem nan_b (a : Int) (w : World) : Calls Tryz.prog 66 #[.int .i64 a] w fun e w' => e = .returned (.bool false) ∧ w = w' := by
  have e1 : (a != a) = false := by simp
  go_enter Tryz.func66, Tryz.ntmps66
  go_wp2
  go_ret
  exact ⟨rfl, rfl⟩
set_option maxHeartbeats 1000000 in
theorem cmp_b (a b : Int) (w : World) : Calls Tryz.prog 32 #[.int .i64 a, .int .i64 b] w fun e w' => e = .returned (.int .i64 (cmpI a b)) ∧ w = w' := by
  have HN : Hid (∀ (z : Int) (W : World), Calls Tryz.prog 66 #[.int .i64 z] W fun e w' => e = .returned (.bool false) ∧ W = w') := fun z W => nan_b z W
  by_cases h1 : a < b
  · have d1 : decide (a < b) = true := decide_eq_true h1
    have e : cmpI a b = -1 := by unfold cmpI; rw [if_pos h1]
    rw [e]
    clear e h1
    go_enter Tryz.func32, Tryz.ntmps32
    go_wp2_with fail
    with_reducible refine (HN.out _ _).mono ?_
    rintro e w1 ⟨rfl, rfl⟩
    go_wp2_with fail
    with_reducible refine (HN.out _ _).mono ?_
    rintro e w2 ⟨rfl, rfl⟩
    go_wp2
    go_ret
    exact ⟨rfl, rfl⟩
  · have d1 : decide (a < b) = false := decide_eq_false h1
    by_cases h2 : b < a
    · have d2 : decide (b < a) = true := decide_eq_true h2
      have e : cmpI a b = 1 := by unfold cmpI; rw [if_neg h1, if_pos h2]
      rw [e]
      clear e h1 h2
      go_enter Tryz.func32, Tryz.ntmps32
      go_wp2_with fail
      with_reducible refine (HN.out _ _).mono ?_
      rintro e w1 ⟨rfl, rfl⟩
      go_wp2_with fail
      with_reducible refine (HN.out _ _).mono ?_
      rintro e w2 ⟨rfl, rfl⟩
      go_wp2
      go_ret
      exact ⟨rfl, rfl⟩
    · have d2 : decide (b < a) = false := decide_eq_false h2
      have e : cmpI a b = 0 := by unfold cmpI; rw [if_neg h1, if_neg h2]
      rw [e]
      clear e h1 h2
      go_enter Tryz.func32, Tryz.ntmps32
      go_wp2_with fail
      with_reducible refine (HN.out _ _).mono ?_
      rintro e w1 ⟨rfl, rfl⟩
      go_wp2_with fail
      with_reducible refine (HN.out _ _).mono ?_
      rintro e w2 ⟨rfl, rfl⟩
      go_wp2
      go_ret
      exact ⟨rfl, rfl⟩

theorem add_zero' (ad : Addr) : ad.add 0 = ad := by unfold Addr.add; simp
def orI (a b : Int) : Int := if a = 0 then b else a
set_option maxHeartbeats 1000000 in
theorem or_b (ad : Addr) (c : Nat) (a b : Int) (w : World) (h : IntsAt w (some ad) [a, b]) :
    Calls Tryz.prog 31 #[.slice (some ad) 2 c] w fun e w' => e = .returned (.int .i64 (orI a b)) ∧ w = w' := by
  obtain ⟨ad', e, c0⟩ := h 0 a rfl
  obtain rfl := Option.some.inj e
  obtain ⟨ad', e, c1⟩ := h 1 b rfl
  obtain rfl := Option.some.inj e
  clear h
  have c0' : w.cell? ad = some (.int .i64 a) := by rwa [add_zero'] at c0
  have c1' : w.cell? ⟨ad.block, ad.off + 1, none⟩ = some (.int .i64 b) := by rw [← add_field _ 1 (by omega)]; exact c1
  clear c0 c1
  by_cases ha : a = 0
  · subst ha
    have e : orI 0 b = b := rfl
    rw [e]
    have d1 : ((0 : Int) != (0 : Int)) = false := by decide
    by_cases hb : b = 0
    · subst hb
      go_enter Tryz.func31, Tryz.ntmps31
      go_wp2
      refine wp_loop_rounds 3 ?_
      rw [rounds_succ]
      go_wp2
      rw [rounds_succ]
      go_wp2
      rw [rounds_succ]
      go_wp2
      go_ret
      exact ⟨rfl, rfl⟩
    · have d2 : (b != (0 : Int)) = true := bne_iff_ne.2 hb
      clear hb
      go_enter Tryz.func31, Tryz.ntmps31
      go_wp2
      refine wp_loop_rounds 3 ?_
      rw [rounds_succ]
      go_wp2
      rw [rounds_succ]
      go_wp2
      go_ret
      exact ⟨rfl, rfl⟩
  · have d1 : (a != (0 : Int)) = true := bne_iff_ne.2 ha
    have e : orI a b = a := by unfold orI; rw [if_neg ha]
    rw [e]
    clear ha e
    go_enter Tryz.func31, Tryz.ntmps31
    go_wp2
    refine wp_loop_rounds 3 ?_
    rw [rounds_succ]
    go_wp2
    go_ret
    exact ⟨rfl, rfl⟩

set_option maxHeartbeats 1000000 in
theorem compare_b (ad bd : Addr) (c d : Nat) (a b : Int) (w : World) (ha : w.cell? ad = some (.int .i64 a)) (hb : w.cell? bd = some (.int .i64 b)) :
    Calls Tryz.prog 63 #[.slice (some ad) 1 c, .slice (some bd) 1 d] w fun e w' => e = .returned (.int .i64 (cmpI a b)) ∧ w = w' := by
  have HC := Lib.hid (cmp_b a b w)
  generalize cmpI a b = r at *
  by_cases hr : r = 0
  · subst hr
    have d1 : ((0 : Int) != (0 : Int)) = false := by decide
    go_enter Tryz.func63, Tryz.ntmps63
    go_wp2
    refine wp_loop_rounds 2 ?_
    rw [rounds_succ]
    go_wp2_with fail
    with_reducible refine HC.out.mono ?_
    rintro e w1 ⟨rfl, rfl⟩
    go_wp2
    rw [rounds_succ]
    go_wp2
    go_ret
    exact ⟨rfl, rfl⟩
  · have d1 : (r != (0 : Int)) = true := bne_iff_ne.2 hr
    clear hr
    go_enter Tryz.func63, Tryz.ntmps63
    go_wp2
    refine wp_loop_rounds 2 ?_
    rw [rounds_succ]
    go_wp2_with fail
    with_reducible refine HC.out.mono ?_
    rintro e w1 ⟨rfl, rfl⟩
    go_wp2
    go_ret
    exact ⟨rfl, rfl⟩
end Go.Proofs.YtjidelfpmlnhkaaGreat
end

section
/-! Rows of rows as they lie in memory; a row of rows of one's own. -/
namespace Go.Proofs.YtjidelfpmlnhkaaGreat
open Go.RowKit
set_option linter.unusedVariables false
set_option maxRecDepth 100000

/-- a row by value, and what it holds -/
structure Rw where
  A : Option Addr
  m : Nat
  c : Nat
  st : List Int
def Rw.val (r : Rw) : Value := .slice r.A r.m r.c
def Rw.rd (r : Rw) (id : Int) : Rd := ⟨id, r.A, r.m, r.c, r.st⟩
def sts (l : List Rw) : List (List Int) := l.map Rw.st
theorem sts_at {l : List Rw} {k : Nat} {r : Rw} (h : l[k]? = some r) : (sts l)[k]? = some r.st := by unfold sts; rw [List.getElem?_map, h]; rfl
theorem sts_len (l : List Rw) : (sts l).length = l.length := List.length_map _
theorem rowAt_sts {l : List Rw} {k : Nat} {r : Rw} (h : l[k]? = some r) : Sv.rowAt (sts l) k = r.st := Sv.rowAt_eq (sts_at h)

/-- all blocks of numbers are kept -/
def KeepI (W W' : World) : Prop := ∀ (k : Nat) (cs : Array Value) (fz : Nat × Nat), W.heap[k]? = some (.cells cs 3 fz) → W'.heap[k]? = W.heap[k]?
theorem KeepI.refl (W : World) : KeepI W W := fun _ _ _ _ => rfl
theorem KeepI.trans {a b c : World} (h : KeepI a b) (k : KeepI b c) : KeepI a c := fun i cs fz e => (k i cs fz ((h i cs fz e).trans e)).trans (h i cs fz e)
theorem KeepI.of {W W' : World} (h : Below W.heap.size W W') : KeepI W W' := fun k cs fz e => h.block k (Array.getElem?_eq_some_iff.1 e).1
/-- all blocks but one -/
def ButB (g : Nat) (W W' : World) : Prop := ∀ k, k < W.heap.size → k ≠ g → W'.heap[k]? = W.heap[k]?
theorem KeepI.but {W W' : World} {g : Nat} {cs : Array Value} {fz : Nat × Nat} (hg : W.heap[g]? = some (.cells cs 29 fz)) (h : ButB g W W') : KeepI W W' := fun k cs' fz' e => h k (Array.getElem?_eq_some_iff.1 e).1 fun hk => by
  subst hk
  rw [hg] at e
  injection e with e
  injection e with _ e _
  cases e

structure RwOk (W : World) (r : Rw) : Prop where
  sl : r.st.length = r.m
  s2 : r.m ≤ 100
  st : IntsAt W r.A r.st
  ty : ∀ ad, r.A = some ad → ∃ (cs : Array Value) (fz : Nat × Nat), W.heap[ad.block]? = some (.cells cs 3 fz)
theorem ints_keep {W W' : World} {A : Option Addr} {l : List Int} (h : IntsAt W A l) (hb : ∀ ad, A = some ad → W'.heap[ad.block]? = W.heap[ad.block]?) : IntsAt W' A l := by
  intro j z hz
  obtain ⟨ad, e, hc⟩ := h j z hz
  refine ⟨ad, e, ?_⟩
  have hblk : (ad.add j).block = ad.block := by unfold Addr.add; split <;> rfl
  rw [World.cell?_of_block (w := W) (w' := W') (by rw [hblk]; exact hb ad e)]
  exact hc
theorem RwOk.keep {W W' : World} {r : Rw} (h : RwOk W r) (hk : KeepI W W') : RwOk W' r := by
  refine ⟨h.sl, h.s2, ints_keep h.st fun ad e => ?_, fun ad e => ?_⟩
  · obtain ⟨cs, fz, e2⟩ := h.ty ad e
    exact hk _ cs fz e2
  · obtain ⟨cs, fz, e2⟩ := h.ty ad e
    exact ⟨cs, fz, (hk _ cs fz e2).trans e2⟩
theorem RwOk.below {W W' : World} {r : Rw} (h : RwOk W r) (hb : Below W.heap.size W W') : RwOk W' r := h.keep (KeepI.of hb)
theorem RwOk.rat {W : World} {r : Rw} (h : RwOk W r) (id : Int) : RAt W (r.rd id) := ⟨h.sl, by have := h.s2; show r.m ≤ 1000; omega, h.st⟩

/-- rows as they lie -/
structure SR (W : World) (b : Nat) (A : Option Addr) (l : List Rw) : Prop where
  at_ : ∀ (k : Nat) (r : Rw), l[k]? = some r → ∃ (g : Nat) (cs : Array Value), A = some ⟨g, 0, none⟩ ∧ b ≤ g ∧ Box W g cs 29 ∧ cs[k]? = some r.val
  ok : ∀ r ∈ l, RwOk W r
theorem SR.nil (W : World) (b : Nat) (A : Option Addr) : SR W b A [] := ⟨fun k r h => by simp at h, fun r h => by cases h⟩
theorem SR.below {W W' : World} {b : Nat} {A : Option Addr} {l : List Rw} (h : SR W b A l) (hb : Below W.heap.size W W') : SR W' b A l :=
  ⟨fun k r hr => by
    obtain ⟨g, cs, e, h1, h2, h3⟩ := h.at_ k r hr
    exact ⟨g, cs, e, h1, h2.below hb, h3⟩, fun r hr => (h.ok r hr).below hb⟩
theorem SR.mono {W : World} {b b' : Nat} {A : Option Addr} {l : List Rw} (h : SR W b A l) (hb : b' ≤ b) : SR W b' A l :=
  ⟨fun k r hr => by
    obtain ⟨g, cs, e, h1, h2, h3⟩ := h.at_ k r hr
    exact ⟨g, cs, e, Nat.le_trans hb h1, h2, h3⟩, h.ok⟩
theorem SR.cell {W : World} {b : Nat} {A : Option Addr} {l : List Rw} (h : SR W b A l) {k : Nat} {r : Rw} (hr : l[k]? = some r) : ∃ ad, A = some ad ∧ W.cell? (ad.add k) = some (.slice r.A r.m r.c) ∧ RwOk W r := by
  obtain ⟨g, cs, e, h1, h2, h3⟩ := h.at_ k r hr
  refine ⟨_, e, ?_, h.ok r (List.mem_of_getElem? hr)⟩
  have e2 : (⟨g, 0, none⟩ : Addr).add k = ⟨g, k, none⟩ := by unfold Addr.add; split <;> simp_all
  rw [e2]
  exact h2.cell k _ h3
/-- the block in which they lie -/
theorem SR.block {W : World} {b : Nat} {A : Option Addr} {l : List Rw} (h : SR W b A l) {k : Nat} {r : Rw} (hr : l[k]? = some r) : ∃ (g : Nat) (cs : Array Value), A = some ⟨g, 0, none⟩ ∧ b ≤ g ∧ Box W g cs 29 ∧ ∀ (j : Nat) (s : Rw), l[j]? = some s → cs[j]? = some s.val := by
  obtain ⟨g, cs, e, h1, h2, h3⟩ := h.at_ k r hr
  refine ⟨g, cs, e, h1, h2, fun j s hs => ?_⟩
  obtain ⟨g', cs', e', _, h2', h3'⟩ := h.at_ j s hs
  rw [e] at e'
  injection e' with e'
  injection e' with e'
  subst e'
  have e3 : (some (Obj.cells cs 29 (0, 0)) : Option Obj) = some (.cells cs' 29 (0, 0)) := Eq.trans (Eq.symm h2) h2'
  injection e3 with e3
  injection e3 with e3
  rw [e3]
  exact h3'

/-- a row of rows of a call's own -/
def OwnS (W : World) (base : Nat) (v : Value) (l : List Rw) : Prop := W.ownsRow base 29 1 v l.length (l.map Rw.val)
theorem ints_info : (Tryz.prog.info? 29).map (fun i => (i.zero, i.size, i.bytes)) = some (some (.slice none 0 0), 1, 24) := by kernel_rfl
theorem ownS_nil (W : World) (base : Nat) : OwnS W base (.slice none 0 0) [] := ⟨by simp, .inl ⟨rfl, rfl⟩⟩
theorem OwnS.put {W W' : World} {base : Nat} {v : Value} {l : List Rw} (h : OwnS W base v l) (hb : ∀ k, base ≤ k → k < W.heap.size → W'.heap[k]? = W.heap[k]?) : OwnS W' base v l := by
  obtain ⟨h1, h2⟩ := h
  refine ⟨h1, ?_⟩
  rcases h2 with h2 | ⟨g, cap, cur, hv, hg, hh, r⟩
  · exact .inl h2
  · exact .inr ⟨g, cap, cur, hv, hg, (hb g hg (Array.getElem?_eq_some_iff.1 hh).1).trans hh, r⟩
theorem OwnS.below {W W' : World} {base : Nat} {v : Value} {l : List Rw} (h : OwnS W base v l) (hb : Below W.heap.size W W') : OwnS W' base v l := h.put fun k _ hk => hb.block k hk
theorem OwnS.row {W : World} {base : Nat} {v : Value} {l : List Rw} (h : OwnS W base v l) (hok : ∀ r ∈ l, RwOk W r) : ∃ A c, v = .slice A l.length c ∧ l.length ≤ c ∧ c ≤ maxLen ∧ SR W base A l ∧ (A = none ∨ ∃ g cs, A = some ⟨g, 0, none⟩ ∧ base ≤ g ∧ Box W g cs 29) := by
  have h' := h
  rcases h'.2 with ⟨rfl, h2⟩ | ⟨g, cap, cur, rfl, hbg, hg, hnc, hcm, hcs, hct⟩
  · have : l = [] := List.eq_nil_of_length_eq_zero h2
    subst this
    exact ⟨none, 0, rfl, Nat.le_refl _, by decide, SR.nil _ _ _, .inl rfl⟩
  · refine ⟨_, cap, rfl, hnc, hcm, ⟨fun k r hr => ⟨g, cur, rfl, hbg, hg, ?_⟩, hok⟩, .inr ⟨g, cur, rfl, hbg, hg⟩⟩
    have hk := (List.getElem?_eq_some_iff.1 hr).1
    have e : (l.map Rw.val)[k]? = some r.val := by rw [List.getElem?_map, hr]; rfl
    rw [← hct, List.getElem?_take_of_lt (by omega)] at e
    simpa using e
/-- what an append of one leaves -/
def ByS (W : World) (base : Nat) (l : List Rw) (v' : Value) (w' : World) : Prop := ∃ A c, v' = .slice A l.length c ∧ Hid (OwnS w' base v' l ∧ Below base W w' ∧ KeepI W w' ∧ W.heap.size ≤ w'.heap.size)
theorem owns_app {W : World} {base : Nat} {v : Value} {l : List Rw} (h : OwnS W base v l) (hb : base ≤ W.heap.size) (r : Rw) (hs : l.length ≤ 1000) :
    ∃ v' w', (Builtin.append_ #[35, 35] 35 #[v, .slice (some ⟨W.heap.size, 0, none⟩) 1 1]).run Tryz.prog (W.alloc (.cells #[.slice r.A r.m r.c] 29)) = .ok v' w' ∧ ByS W base (l ++ [r]) v' w' := by
  obtain ⟨i0, hi0, hz0, hz1, hz2⟩ := info_parts3 ints_info
  have hbx : Box (W.alloc (.cells #[.slice r.A r.m r.c] 29)) W.heap.size #[.slice r.A r.m r.c] 29 := Box.new _ _ _
  have ho1 : OwnS (W.alloc (.cells #[.slice r.A r.m r.c] 29)) base v l := h.below (below_alloc _ _)
  obtain ⟨v', w', h1, h2, h3, _⟩ := run_append_own (P := Tryz.prog) (W.alloc (.cells #[.slice r.A r.m r.c] 29)) base 35 35 29 i0 _ 1 24 Tryz.underlying35 hi0 hz0 hz1 hz2 rfl (by omega) v l.length (l.map Rw.val) ho1 ⟨W.heap.size, 0, none⟩ 1 1 [r.val] rfl
    (fun j u hu => by
      rw [Addr.add_mid, Nat.zero_add]
      exact hbx.cell j u (by simpa [Rw.val] using hu)) (by intro y hy; rcases List.mem_cons.1 hy with rfl | hy; rfl; cases hy) (by unfold maxLen; omega)
    (by omega) (Nat.le_trans hb (below_alloc W _).size)
  have ho : OwnS w' base v' (l ++ [r]) := by
    unfold OwnS
    rw [List.length_append, List.map_append]
    exact h2
  have hoff : ∀ k, v.ownBlock = some k → base ≤ k ∧ ∃ cs : Array Value, W.heap[k]? = some (.cells cs 29 (0, 0)) := fun k e => by
    rcases h.2 with ⟨rfl, _⟩ | ⟨g, cap, cur, rfl, hbg, hg, _⟩
    · cases e
    · obtain rfl := Option.some.inj e
      exact ⟨hbg, cur, hg⟩
  have hne : ∀ k, k < W.heap.size → v.ownBlock ≠ some k → w'.heap[k]? = W.heap[k]? := fun k hk e => (h3.block k (Nat.lt_of_lt_of_le hk (below_alloc W _).size) (fun x => e x.symm)).trans (heap_alloc_old W _ hk)
  have hsz : W.heap.size ≤ w'.heap.size := Nat.le_trans (below_alloc W _).size h3.size
  obtain ⟨A', c', e⟩ : ∃ A c, v' = .slice A (l ++ [r]).length c := by
    rcases ho.2 with ⟨_, h0⟩ | ⟨g, cap, cur, hv, _⟩
    · rw [List.length_append] at h0; simp at h0
    · exact ⟨_, _, hv⟩
  refine ⟨v', w', h1, A', c', e, ho, ⟨h3.os, h3.tape, h3.output, hsz, fun k hk => hne k (Nat.lt_of_lt_of_le hk hb) fun e => ?_⟩, fun k cs fz e => hne k (Array.getElem?_eq_some_iff.1 e).1 fun e2 => ?_, hsz⟩
  · have := (hoff k e).1
    omega
  · obtain ⟨_, cs', e3⟩ := hoff k e2
    rw [e] at e3
    injection e3 with e3
    injection e3 with _ e3 _
    cases e3
end Go.Proofs.YtjidelfpmlnhkaaGreat
end
