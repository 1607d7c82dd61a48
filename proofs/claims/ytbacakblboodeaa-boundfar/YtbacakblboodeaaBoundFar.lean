/- Every call of the law that where all nodes are as far from one another each order's distance is that, or 0 if another one is at its node, answers true: for every world, orders and distance. No conditions. -/
import Derived.Test.YtbacakblboodeaaRows
import Derived.Test.YtbacakblboodeaaBndFm
import Derived.Test.YtbacakblboodeaaMaths
import Derived.WalkKit
import Derived.ProofKit
import Derived.OpenShut
import Derived.ShutString
import Derived.ChangeOld
import Derived.Below
import Derived.SizedLaws
namespace Go.Proofs.Ytbacakblboodeaa.boundFar
open Go.ChangeShapes Go.WideShapes Go.ChangeAt Go.RowKit
open Go.ChangeMaps (open_string shut_string)
set_option linter.unusedVariables false

theorem own : ownKnob Try.prog.godebug = none := by kernel_rfl
theorem laidOut : laidOutB Try.prog = true := by kernel_rfl

open Go.Proofs.Ytbacakblboodeaa Go.Maps
set_option maxRecDepth 100000

/-- a world whose distances are a row of the law's own -/
structure FS (w : World) (b1 g : Nat) (x : Wd) (D : List Int) (W : World) : Prop where
  box : Box W b1 #[.int .i64 x.N, .slice (some ⟨g, 0, none⟩) x.dm x.dm, .slice x.tA x.tm x.tc, .slice x.A x.m x.c, .slice x.B x.k x.d] 28
  row : Nums W g D
  bel : Below w.heap.size w W
  lo : w.heap.size ≤ b1 ∧ b1 < g
theorem FS.below {w W W' : World} {b1 g : Nat} {x : Wd} {D : List Int} (h : FS w b1 g x D W) (hb : Below W.heap.size W W') : FS w b1 g x D W' := ⟨h.box.below hb, h.row.below hb, below_next h.bel hb, h.lo⟩
theorem FS.drew {w W : World} {b1 g : Nat} {x : Wd} {D : List Int} (h : FS w b1 g x D W) : FS w b1 g x D W.drew := h.below (Below.refl _ _).drew
theorem FS.set {w W : World} {b1 g : Nat} {x : Wd} {D : List Int} (h : FS w b1 g x D W) (k : Nat) (z : Int) : FS w b1 g x (D.set k z) (W.setCell ⟨g, k, none⟩ (.int .i64 z)) :=
  ⟨(Go.Deep.blk_setCell_other W ⟨g, k, none⟩ _ b1 (Nat.ne_of_lt h.lo.2)).trans h.box, h.row.set k z, h.bel.setCell (p := ⟨g, k, none⟩) (Nat.le_trans h.lo.1 (Nat.le_of_lt h.lo.2)) _, h.lo⟩
/-- the world whose distances are that row -/
theorem FS.wx {w W : World} {b1 g : Nat} {x : Wd} {D : List Int} (h : FS w b1 g x D W) (hw : WAt w x) (hD : D.length = x.dm) (hk : x.k ≤ x.d) : ∃ y : Wd, WX W b1 y ∧ y.k ≤ y.d ∧ y.N = x.N ∧ y.D = D ∧ y.dm = x.dm :=
  ⟨⟨x.N, some ⟨g, 0, none⟩, x.dm, x.dm, D, x.tA, x.tm, x.tc, x.T, x.A, x.m, x.c, x.os, x.B, x.k, x.d, x.ts⟩,
    ⟨h.box, ⟨hD, hw.ar.tl, hw.ar.d400, hw.ar.t400, h.row.ints, hw.ar.t.below h.bel⟩, hw.n, hw.ml, hw.m2, hw.kl, hw.k2, hw.os.below h.bel, hw.ts.below h.bel⟩, hk, rfl, rfl, rfl⟩
/-- what the law holds behind Make: the world, what is made, the orders -/
structure FB (V : World) (b1 b4 : Nat) (y : Wd) (m : Ct) (A : Option Addr) (l : List Int) : Prop where
  w : WX V b1 y
  c : CX V b4 m
  i : IntsAt V A l
theorem FB.below {V V' : World} {b1 b4 : Nat} {y : Wd} {m : Ct} {A : Option Addr} {l : List Int} (h : FB V b1 b4 y m A l) (hb : Below V.heap.size V V') : FB V' b1 b4 y m A l := ⟨h.w.below hb, h.c.below hb, h.i.below hb⟩
theorem sum_in {inn : List Int} {far : Int} (hf : 0 ≤ far ∧ far ≤ 1000000) (h : ∀ z ∈ inn, z = 0 ∨ z = far) (k : Nat) : 0 ≤ (inn.take k).sum ∧ (inn.take k).sum ≤ 1000000 * (k : Int) := by
  induction k with
  | zero => simp
  | succ k ih =>
    by_cases hk : k < inn.length
    · have e : inn[k]? = some inn[k] := List.getElem?_eq_getElem hk
      rw [List.take_add_one, e]
      have h1 := h _ (List.getElem_mem hk)
      simp only [Option.toList, List.sum_append, List.sum_cons, List.sum_nil]
      push_cast
      omega
    · rw [List.take_of_length_le (by omega)] at ih ⊢
      push_cast
      omega
set_option maxHeartbeats 20000000 in
theorem walk {w : World} (x : Wd) (hx : WorldIn w x) (hk : x.k ≤ x.d) (hd : x.dm ≤ x.dc) (A : Option Addr) (n c : Nat) (l : List Int) (hn : l.length = n) (hnc : n ≤ c) (hc : c ≤ maxLen) (hl : IntsAt w A l) (far : Int) (hf : (Lit.int .i64 far).wf = true) :
    Calls Try.prog 6 #[.agg #[.int .i64 x.N, .slice x.dA x.dm x.dc, .slice x.tA x.tm x.tc, .slice x.A x.m x.c, .slice x.B x.k x.d], .slice A n c, .int .i64 far] w fun e w' => e = .returned (.bool true) ∧ Below w.heap.size w w' := by
  have HB0 : Hid (Below w.heap.size w (w.alloc (.cells #[.int .i64 x.N, .slice x.dA x.dm x.dc, .slice x.tA x.tm x.tc, .slice x.A x.m x.c, .slice x.B x.k x.d] 28))) := below_alloc _ _
  have HX : Hid (Box (w.alloc (.cells #[.int .i64 x.N, .slice x.dA x.dm x.dc, .slice x.tA x.tm x.tc, .slice x.A x.m x.c, .slice x.B x.k x.d] 28)) w.heap.size x.cells 28) := box_at _ _ _ _ (by simp)
  have HWI := Lib.hid hx
  have HCAP := Lib.hid hk
  have HN := Lib.hid hn
  have HL := Lib.hid hl
  have hcm : n ≤ maxLen := Nat.le_trans hnc hc
  clear hx hk hd hn hl hnc hc hf
  go_enter Try.func6, Try.ntmps6
  go_wp2_with fail
  generalize (w.alloc (.cells #[.int .i64 x.N, .slice x.dA x.dm x.dc, .slice x.tA x.tm x.tc, .slice x.A x.m x.c, .slice x.B x.k x.d] 28)) = V at *
  generalize hb1 : w.heap.size = b1 at HX ⊢
  have HBE := Lib.hid hb1
  clear hb1
  with_reducible refine (awake_any _).mono ?_
  rintro e V1 ⟨rfl, hv1⟩
  have HX1 := Lib.hid (HX.out.below hv1)
  have HB1 := Lib.hid (below_next HB0.out hv1)
  clear hv1 HX HB0
  have c0 := wbox0 HX1.out
  have c1 := wbox1 HX1.out
  have c2 := wbox2 HX1.out
  have c3 := wbox3 HX1.out
  have c4 := wbox4 HX1.out
  by_cases hl : Large x ⟨0, none, n, 0, []⟩
  · have HC := Lib.hid (large_yes x ⟨0, none, n, 0, []⟩ V1 HWI.out.mx HWI.out.kx HWI.out.dx HWI.out.tx hcm hl)
    clear hl
    go_wp2_with fail
    with_reducible refine HC.out.mono ?_
    rintro e V2 ⟨rfl, hv2⟩
    have HB2 := Lib.hid (below_next HB1.out hv2.out)
    go_wp2_with fail
    go_ret
    exact ⟨rfl, HB2.out⟩
  have HC := Lib.hid (large_no x ⟨0, none, n, 0, []⟩ V1 hl)
  have HNL := Lib.hid hl
  clear hl
  go_wp2_with fail
  clear c0 c1 c2 c3 c4
  with_reducible refine HC.out.mono ?_
  rintro e V2 ⟨rfl, hv2⟩
  have HX2 := Lib.hid (HX1.out.below hv2.out)
  have HB2 := Lib.hid (below_next HB1.out hv2.out)
  clear hv2 HX1 HB1 HC
  by_cases h1 : far < 0
  · have d1 : decide (far < (0 : Int)) = true := decide_eq_true h1
    go_wp2_with fail
    go_ret
    exact ⟨rfl, HB2.out⟩
  have d1 : decide (far < (0 : Int)) = false := decide_eq_false h1
  by_cases h2 : 1000000 < far
  · have d2 : decide ((1000000 : Int) < far) = true := decide_eq_true h2
    go_wp2_with fail
    go_ret
    exact ⟨rfl, HB2.out⟩
  have d2 : decide ((1000000 : Int) < far) = false := decide_eq_false h2
  have HFR : Hid (0 ≤ far ∧ far ≤ 1000000) := by unfold Hid; omega
  have HWA : Hid (WAt w x) := HWI.out.at_ HNL.out
  have hdm : x.dm ≤ 400 := by have h := HNL.out; unfold Large at h; omega
  have hn2 : n ≤ 100 := by have h := HNL.out; unfold Large at h; exact Nat.le_of_not_lt fun e => h (.inr (.inr (.inr (.inr e))))
  clear HNL HWI hcm h1 h2
  have hmk : ∀ W : World, (Instr.makeSlice 22 (.int .i64 (x.dm : Int)) (.int .i64 (x.dm : Int))).run Try.prog W = .ok (.slice (some ⟨W.heap.size, 0, none⟩) x.dm x.dm) (W.alloc (.cells (Array.replicate x.dm (Value.int .i64 0)) 2)) := make_nums2 x.dm (by omega)
  have HXA : Hid (Box (V2.alloc (.cells (Array.replicate x.dm (Value.int .i64 0)) 2)) b1 x.cells 28) := HX2.out.below (below_alloc _ _)
  have c1 := wbox1 HX2.out
  have a1 := wbox1 HXA.out
  have f1 := HX2.out.fz 1
  have g1 := HXA.out.fz 1
  go_wp2_with fail
  clear c1 a1 f1 g1 hmk d1 d2
  have HFS : Hid (FS w b1 V2.heap.size x (Bo.farK x.N far x.dm 0) ((V2.alloc (.cells (Array.replicate x.dm (Value.int .i64 0)) 2)).setCell ⟨b1, 1, none⟩ (.slice (some ⟨V2.heap.size, 0, none⟩) x.dm x.dm))) := by
    have hlt := HX2.out.lt
    refine ⟨HXA.out.set 1 _ _ rfl, ?_, (below_more HB2.out _).setCell (p := ⟨b1, 1, none⟩) (by rw [HBE.out]; exact Nat.le_refl _) _, by rw [HBE.out]; exact Nat.le_refl _, hlt⟩
    rw [Bo.farK_zero]
    unfold Nums
    rw [arr_zeros]
    exact (Go.Deep.blk_setCell_other _ ⟨b1, 1, none⟩ _ V2.heap.size (Nat.ne_of_gt hlt)).trans (Box.new _ _ _)
  clear HXA HX2 HB2
  generalize ((V2.alloc (.cells (Array.replicate x.dm (Value.int .i64 0)) 2)).setCell ⟨b1, 1, none⟩ (.slice (some ⟨V2.heap.size, 0, none⟩) x.dm x.dm)) = W4 at HFS ⊢
  generalize V2.heap.size = g at HFS ⊢
  go_loopg [47] x.dm (fun gk s47 W => ∃ (k : Nat) (W0 : World), W0 = W ∧ k + gk = x.dm ∧ s47 = .int .i64 (k : Int) ∧ Hid (FS w b1 g x (Bo.farK x.N far x.dm k) W0))
  case atStart => exact ⟨0, _, rfl, by omega, rfl, HFS.out⟩
  case round =>
    clear HFS
    obtain ⟨k, W0, rfl, hkg, rfl, HS⟩ := hrel
    by_cases hlt : k < x.dm
    · obtain ⟨gk, rfl⟩ : ∃ i, gk = i + 1 := ⟨gk - 1, by omega⟩
      have HIN : Hid (W0.drew.cell? ⟨b1, 0, none⟩ = some (.int .i64 x.N)) := HS.out.drew.box.cell 0 _ rfl
      by_cases hN : 0 < x.N
      · have d0 : decide ((0 : Int) < x.N) = true := decide_eq_true hN
        have n0 : x.N ≠ 0 := by omega
        have hq : IntKind.i64.wrap ((k : Int) / x.N) = Int.tdiv (k : Int) x.N := by
          rw [Int.tdiv_eq_ediv_of_nonneg (by omega)]
          have h1 : (k : Int) / x.N ≤ k := Int.ediv_le_self _ (by omega)
          have h2 : 0 ≤ (k : Int) / x.N := Int.ediv_nonneg (by omega) (by omega)
          exact IntWalk.i64_in _ (by omega)
        by_cases hqr : Int.tdiv (k : Int) x.N = Int.tmod (k : Int) x.N
        · have e1 : (IntKind.i64.wrap ((k : Int) / x.N) != Int.tmod (k : Int) x.N) = false := by rw [hq, hqr]; simp
          have HNX : Hid (Bo.farK x.N far x.dm (k + 1) = Bo.farK x.N far x.dm k) := Bo.farK_same fun h => h.2 hqr
          clear hqr hq
          go_upto_region 9 with fail
          refine wp_region_held_drew (S := (fun U : World => U.cell? ⟨b1, 0, none⟩ = some (.int .i64 x.N))) (by kernel_rfl) (by (try dsimp only); exact HIN.out) (fun hHeld => ?_)
          refine wpAnyH_take (i := 0) (v := ?_) (by simp only [List.getElem?_toArray, List.getElem?_cons_zero]; exact rfl) (by kernel_rfl) (by kernel_rfl) (by kernel_rfl) (by exact fun _ _ _ h => h) (Or.inl ⟨by rfl, ?_⟩) (by assumption) ?_
          rotate_left
          · intro w hSw; (try dsimp only at hSw); go_simp <;> with_reducible rfl
          try simp only [Act.put, List.setIfInBounds_toArray, List.set_cons_zero, List.set_cons_succ]
          refine wpAnyH_take (i := 1) (v := ?_) (by simp only [List.getElem?_toArray, List.getElem?_cons_succ, List.getElem?_cons_zero]; exact rfl) (by kernel_rfl) (by kernel_rfl) (by kernel_rfl) (by exact fun _ _ _ h => h) (Or.inl ⟨by rfl, ?_⟩) (by assumption) ?_
          rotate_left
          · intro w hSw; (try dsimp only at hSw); go_simp <;> with_reducible rfl
          try simp only [Act.put, List.setIfInBounds_toArray, List.set_cons_zero, List.set_cons_succ]
          refine wpAnyH_take (i := 2) (v := ?_) (by simp only [List.getElem?_toArray, List.getElem?_cons_succ, List.getElem?_cons_zero]; exact rfl) (by kernel_rfl) (by kernel_rfl) (by kernel_rfl) (by exact fun _ _ _ h => h) (Or.inl ⟨by rfl, ?_⟩) (by assumption) ?_
          rotate_left
          · intro w hSw; (try dsimp only at hSw); go_simp <;> with_reducible rfl
          try simp only [Act.put, List.setIfInBounds_toArray, List.set_cons_zero, List.set_cons_succ]
          refine wpAnyH_take (i := 3) (v := ?_) (by simp only [List.getElem?_toArray, List.getElem?_cons_succ, List.getElem?_cons_zero]; exact rfl) (by kernel_rfl) (by kernel_rfl) (by kernel_rfl) (by exact fun _ _ _ h => h) (Or.inl ⟨by rfl, ?_⟩) (by assumption) ?_
          rotate_left
          · intro w hSw; (try dsimp only at hSw); go_simp <;> with_reducible rfl
          try simp only [Act.put, List.setIfInBounds_toArray, List.set_cons_zero, List.set_cons_succ]
          refine wpAnyH_take (i := 4) (v := ?_) (by simp only [List.getElem?_toArray, List.getElem?_cons_succ, List.getElem?_cons_zero]; exact rfl) (by kernel_rfl) (by kernel_rfl) (by kernel_rfl) (by exact fun _ _ _ h => h) (Or.inl ⟨by rfl, ?_⟩) (by assumption) ?_
          rotate_left
          · intro w hSw; (try dsimp only at hSw); go_simp <;> with_reducible rfl
          try simp only [Act.put, List.setIfInBounds_toArray, List.set_cons_zero, List.set_cons_succ]
          refine wpAnyH_take (i := 5) (v := ?_) (by simp only [List.getElem?_toArray, List.getElem?_cons_succ, List.getElem?_cons_zero]; exact rfl) (by kernel_rfl) (by kernel_rfl) (by kernel_rfl) (by exact fun _ _ _ h => h) (Or.inl ⟨by rfl, ?_⟩) (by assumption) ?_
          rotate_left
          · intro w hSw; (try dsimp only at hSw); go_simp <;> with_reducible rfl
          try simp only [Act.put, List.setIfInBounds_toArray, List.set_cons_zero, List.set_cons_succ]
          refine wpAnyH_take (i := 6) (v := ?_) (by simp only [List.getElem?_toArray, List.getElem?_cons_succ, List.getElem?_cons_zero]; exact rfl) (by kernel_rfl) (by kernel_rfl) (by kernel_rfl) (by exact fun _ _ _ h => h) (Or.inl ⟨by rfl, ?_⟩) (by assumption) ?_
          rotate_left
          · intro w hSw; (try dsimp only at hSw); go_simp <;> with_reducible rfl
          try simp only [Act.put, List.setIfInBounds_toArray, List.set_cons_zero, List.set_cons_succ]
          refine wpAnyH_take (i := 7) (v := ?_) (by simp only [List.getElem?_toArray, List.getElem?_cons_succ, List.getElem?_cons_zero]; exact rfl) (by kernel_rfl) (by kernel_rfl) (by kernel_rfl) (by exact fun _ _ _ h => h) (Or.inl ⟨by rfl, ?_⟩) (by assumption) ?_
          rotate_left
          · intro w hSw; (try dsimp only at hSw); go_simp <;> with_reducible rfl
          try simp only [Act.put, List.setIfInBounds_toArray, List.set_cons_zero, List.set_cons_succ]
          refine wpAnyH_take (i := 8) (v := ?_) (by simp only [List.getElem?_toArray, List.getElem?_cons_succ, List.getElem?_cons_zero]; exact rfl) (by kernel_rfl) (by kernel_rfl) (by kernel_rfl) (by exact fun _ _ _ h => h) (Or.inl ⟨by rfl, ?_⟩) (by assumption) ?_
          rotate_left
          · intro w hSw; (try dsimp only at hSw); go_simp <;> with_reducible rfl
          try simp only [Act.put, List.setIfInBounds_toArray, List.set_cons_zero, List.set_cons_succ]
          refine wpAnyH_take (i := 9) (v := ?_) (by simp only [List.getElem?_toArray, List.getElem?_cons_succ, List.getElem?_cons_zero]; exact rfl) (by kernel_rfl) (by kernel_rfl) (by kernel_rfl) (by exact fun _ _ _ h => h) (Or.inl ⟨by rfl, ?_⟩) (by assumption) ?_
          rotate_left
          · intro w hSw; (try dsimp only at hSw); go_simp <;> with_reducible rfl
          try simp only [Act.put, List.setIfInBounds_toArray, List.set_cons_zero, List.set_cons_succ]
          refine wpAnyH_take (i := 10) (v := ?_) (by simp only [List.getElem?_toArray, List.getElem?_cons_succ, List.getElem?_cons_zero]; exact rfl) (by kernel_rfl) (by kernel_rfl) (by kernel_rfl) (by exact fun _ _ _ h => h) (Or.inl ⟨by rfl, ?_⟩) (by assumption) ?_
          rotate_left
          · intro w hSw; (try dsimp only at hSw); go_simp <;> with_reducible rfl
          try simp only [Act.put, List.setIfInBounds_toArray, List.set_cons_zero, List.set_cons_succ]
          refine wpAnyH_take (i := 11) (v := ?_) (by simp only [List.getElem?_toArray, List.getElem?_cons_succ, List.getElem?_cons_zero]; exact rfl) (by kernel_rfl) (by kernel_rfl) (by kernel_rfl) (by exact fun _ _ _ h => h) (Or.inl ⟨by rfl, ?_⟩) (by assumption) ?_
          rotate_left
          · intro w hSw; (try dsimp only at hSw); go_simp <;> with_reducible rfl
          try simp only [Act.put, List.setIfInBounds_toArray, List.set_cons_zero, List.set_cons_succ]
          refine wpAnyH_take (i := 12) (v := ?_) (by simp only [List.getElem?_toArray, List.getElem?_cons_succ, List.getElem?_cons_zero]; exact rfl) (by kernel_rfl) (by kernel_rfl) (by kernel_rfl) (by exact fun _ _ _ h => h) (Or.inl ⟨by rfl, ?_⟩) (by assumption) ?_
          rotate_left
          · intro w hSw; (try dsimp only at hSw); go_simp <;> with_reducible rfl
          try simp only [Act.put, List.setIfInBounds_toArray, List.set_cons_zero, List.set_cons_succ]
          refine wpAnyH_take (i := 13) (v := ?_) (by simp only [List.getElem?_toArray, List.getElem?_cons_succ, List.getElem?_cons_zero]; exact rfl) (by kernel_rfl) (by kernel_rfl) (by kernel_rfl) (by exact fun _ _ _ h => h) (Or.inl ⟨by rfl, ?_⟩) (by assumption) ?_
          rotate_left
          · intro w hSw; (try dsimp only at hSw); go_simp <;> with_reducible rfl
          try simp only [Act.put, List.setIfInBounds_toArray, List.set_cons_zero, List.set_cons_succ]
          refine wpAnyH_take (i := 14) (v := ?_) (by simp only [List.getElem?_toArray, List.getElem?_cons_succ, List.getElem?_cons_zero]; exact rfl) (by kernel_rfl) (by kernel_rfl) (by kernel_rfl) (by exact fun _ _ _ h => h) (Or.inl ⟨by rfl, ?_⟩) (by assumption) ?_
          rotate_left
          · intro w hSw; (try dsimp only at hSw); go_simp <;> with_reducible rfl
          try simp only [Act.put, List.setIfInBounds_toArray, List.set_cons_zero, List.set_cons_succ]
          refine wpAnyH_take (i := 15) (v := ?_) (by simp only [List.getElem?_toArray, List.getElem?_cons_succ, List.getElem?_cons_zero]; exact rfl) (by kernel_rfl) (by kernel_rfl) (by kernel_rfl) (by exact fun _ _ _ h => h) (Or.inl ⟨by rfl, ?_⟩) (by assumption) ?_
          rotate_left
          · intro w hSw; (try dsimp only at hSw); go_simp <;> with_reducible rfl
          try simp only [Act.put, List.setIfInBounds_toArray, List.set_cons_zero, List.set_cons_succ]
          refine wpAnyH_take (i := 16) (v := ?_) (by simp only [List.getElem?_toArray, List.getElem?_cons_succ, List.getElem?_cons_zero]; exact rfl) (by kernel_rfl) (by kernel_rfl) (by kernel_rfl) (by exact fun _ _ _ h => h) (Or.inl ⟨by rfl, ?_⟩) (by assumption) ?_
          rotate_left
          · intro w hSw; (try dsimp only at hSw); go_simp <;> with_reducible rfl
          try simp only [Act.put, List.setIfInBounds_toArray, List.set_cons_zero, List.set_cons_succ]
          refine wpAnyH_done (by kernel_rfl) ?_ _
          rotate_left
          clear hHeld
          go_wp2_with fail
          go_roundg gk
          case measure => omega
          case rel => exact ⟨k + 1, _, rfl, by omega, by first | rfl | go_num, by rw [HNX.out]; exact HS.out.drew⟩
        · have e1 : (IntKind.i64.wrap ((k : Int) / x.N) != Int.tmod (k : Int) x.N) = true := by rw [hq]; exact bne_iff_ne.2 hqr
          have HNX : Hid (Bo.farK x.N far x.dm (k + 1) = (Bo.farK x.N far x.dm k).set k far) := Bo.farK_set ⟨hN, hqr⟩ hlt
          clear hqr hq
          have c1 : W0.cell? ⟨b1, 1, none⟩ = some (.slice (some ⟨g, 0, none⟩) x.dm x.dm) := HS.out.box.cell 1 _ rfl
          obtain ⟨z, hz⟩ := mlist_at (Bo.farK x.N far x.dm k) k (by rw [Bo.farK_len]; exact hlt)
          have gz : W0.cell? ⟨g, k, none⟩ = some (.int .i64 z) := Box.cell HS.out.row k _ (by simp [hz])
          have fz : W0.frozen? ⟨g, k, none⟩ = false := Box.fz HS.out.row k
          have i1 : (0 : Int) ≤ (k : Int) := by omega
          have i2 : (k : Int) < (x.dm : Int) := by omega
          clear hz
          go_upto_region 9 with fail
          refine wp_region_held_drew (S := (fun U : World => U.cell? ⟨b1, 0, none⟩ = some (.int .i64 x.N))) (by kernel_rfl) (by (try dsimp only); exact HIN.out) (fun hHeld => ?_)
          refine wpAnyH_take (i := 0) (v := ?_) (by simp only [List.getElem?_toArray, List.getElem?_cons_zero]; exact rfl) (by kernel_rfl) (by kernel_rfl) (by kernel_rfl) (by exact fun _ _ _ h => h) (Or.inl ⟨by rfl, ?_⟩) (by assumption) ?_
          rotate_left
          · intro w hSw; (try dsimp only at hSw); go_simp <;> with_reducible rfl
          try simp only [Act.put, List.setIfInBounds_toArray, List.set_cons_zero, List.set_cons_succ]
          refine wpAnyH_take (i := 1) (v := ?_) (by simp only [List.getElem?_toArray, List.getElem?_cons_succ, List.getElem?_cons_zero]; exact rfl) (by kernel_rfl) (by kernel_rfl) (by kernel_rfl) (by exact fun _ _ _ h => h) (Or.inl ⟨by rfl, ?_⟩) (by assumption) ?_
          rotate_left
          · intro w hSw; (try dsimp only at hSw); go_simp <;> with_reducible rfl
          try simp only [Act.put, List.setIfInBounds_toArray, List.set_cons_zero, List.set_cons_succ]
          refine wpAnyH_take (i := 2) (v := ?_) (by simp only [List.getElem?_toArray, List.getElem?_cons_succ, List.getElem?_cons_zero]; exact rfl) (by kernel_rfl) (by kernel_rfl) (by kernel_rfl) (by exact fun _ _ _ h => h) (Or.inl ⟨by rfl, ?_⟩) (by assumption) ?_
          rotate_left
          · intro w hSw; (try dsimp only at hSw); go_simp <;> with_reducible rfl
          try simp only [Act.put, List.setIfInBounds_toArray, List.set_cons_zero, List.set_cons_succ]
          refine wpAnyH_take (i := 3) (v := ?_) (by simp only [List.getElem?_toArray, List.getElem?_cons_succ, List.getElem?_cons_zero]; exact rfl) (by kernel_rfl) (by kernel_rfl) (by kernel_rfl) (by exact fun _ _ _ h => h) (Or.inl ⟨by rfl, ?_⟩) (by assumption) ?_
          rotate_left
          · intro w hSw; (try dsimp only at hSw); go_simp <;> with_reducible rfl
          try simp only [Act.put, List.setIfInBounds_toArray, List.set_cons_zero, List.set_cons_succ]
          refine wpAnyH_take (i := 4) (v := ?_) (by simp only [List.getElem?_toArray, List.getElem?_cons_succ, List.getElem?_cons_zero]; exact rfl) (by kernel_rfl) (by kernel_rfl) (by kernel_rfl) (by exact fun _ _ _ h => h) (Or.inl ⟨by rfl, ?_⟩) (by assumption) ?_
          rotate_left
          · intro w hSw; (try dsimp only at hSw); go_simp <;> with_reducible rfl
          try simp only [Act.put, List.setIfInBounds_toArray, List.set_cons_zero, List.set_cons_succ]
          refine wpAnyH_take (i := 5) (v := ?_) (by simp only [List.getElem?_toArray, List.getElem?_cons_succ, List.getElem?_cons_zero]; exact rfl) (by kernel_rfl) (by kernel_rfl) (by kernel_rfl) (by exact fun _ _ _ h => h) (Or.inl ⟨by rfl, ?_⟩) (by assumption) ?_
          rotate_left
          · intro w hSw; (try dsimp only at hSw); go_simp <;> with_reducible rfl
          try simp only [Act.put, List.setIfInBounds_toArray, List.set_cons_zero, List.set_cons_succ]
          refine wpAnyH_take (i := 6) (v := ?_) (by simp only [List.getElem?_toArray, List.getElem?_cons_succ, List.getElem?_cons_zero]; exact rfl) (by kernel_rfl) (by kernel_rfl) (by kernel_rfl) (by exact fun _ _ _ h => h) (Or.inl ⟨by rfl, ?_⟩) (by assumption) ?_
          rotate_left
          · intro w hSw; (try dsimp only at hSw); go_simp <;> with_reducible rfl
          try simp only [Act.put, List.setIfInBounds_toArray, List.set_cons_zero, List.set_cons_succ]
          refine wpAnyH_take (i := 7) (v := ?_) (by simp only [List.getElem?_toArray, List.getElem?_cons_succ, List.getElem?_cons_zero]; exact rfl) (by kernel_rfl) (by kernel_rfl) (by kernel_rfl) (by exact fun _ _ _ h => h) (Or.inl ⟨by rfl, ?_⟩) (by assumption) ?_
          rotate_left
          · intro w hSw; (try dsimp only at hSw); go_simp <;> with_reducible rfl
          try simp only [Act.put, List.setIfInBounds_toArray, List.set_cons_zero, List.set_cons_succ]
          refine wpAnyH_take (i := 8) (v := ?_) (by simp only [List.getElem?_toArray, List.getElem?_cons_succ, List.getElem?_cons_zero]; exact rfl) (by kernel_rfl) (by kernel_rfl) (by kernel_rfl) (by exact fun _ _ _ h => h) (Or.inl ⟨by rfl, ?_⟩) (by assumption) ?_
          rotate_left
          · intro w hSw; (try dsimp only at hSw); go_simp <;> with_reducible rfl
          try simp only [Act.put, List.setIfInBounds_toArray, List.set_cons_zero, List.set_cons_succ]
          refine wpAnyH_take (i := 9) (v := ?_) (by simp only [List.getElem?_toArray, List.getElem?_cons_succ, List.getElem?_cons_zero]; exact rfl) (by kernel_rfl) (by kernel_rfl) (by kernel_rfl) (by exact fun _ _ _ h => h) (Or.inl ⟨by rfl, ?_⟩) (by assumption) ?_
          rotate_left
          · intro w hSw; (try dsimp only at hSw); go_simp <;> with_reducible rfl
          try simp only [Act.put, List.setIfInBounds_toArray, List.set_cons_zero, List.set_cons_succ]
          refine wpAnyH_take (i := 10) (v := ?_) (by simp only [List.getElem?_toArray, List.getElem?_cons_succ, List.getElem?_cons_zero]; exact rfl) (by kernel_rfl) (by kernel_rfl) (by kernel_rfl) (by exact fun _ _ _ h => h) (Or.inl ⟨by rfl, ?_⟩) (by assumption) ?_
          rotate_left
          · intro w hSw; (try dsimp only at hSw); go_simp <;> with_reducible rfl
          try simp only [Act.put, List.setIfInBounds_toArray, List.set_cons_zero, List.set_cons_succ]
          refine wpAnyH_take (i := 11) (v := ?_) (by simp only [List.getElem?_toArray, List.getElem?_cons_succ, List.getElem?_cons_zero]; exact rfl) (by kernel_rfl) (by kernel_rfl) (by kernel_rfl) (by exact fun _ _ _ h => h) (Or.inl ⟨by rfl, ?_⟩) (by assumption) ?_
          rotate_left
          · intro w hSw; (try dsimp only at hSw); go_simp <;> with_reducible rfl
          try simp only [Act.put, List.setIfInBounds_toArray, List.set_cons_zero, List.set_cons_succ]
          refine wpAnyH_take (i := 12) (v := ?_) (by simp only [List.getElem?_toArray, List.getElem?_cons_succ, List.getElem?_cons_zero]; exact rfl) (by kernel_rfl) (by kernel_rfl) (by kernel_rfl) (by exact fun _ _ _ h => h) (Or.inl ⟨by rfl, ?_⟩) (by assumption) ?_
          rotate_left
          · intro w hSw; (try dsimp only at hSw); go_simp <;> with_reducible rfl
          try simp only [Act.put, List.setIfInBounds_toArray, List.set_cons_zero, List.set_cons_succ]
          refine wpAnyH_take (i := 13) (v := ?_) (by simp only [List.getElem?_toArray, List.getElem?_cons_succ, List.getElem?_cons_zero]; exact rfl) (by kernel_rfl) (by kernel_rfl) (by kernel_rfl) (by exact fun _ _ _ h => h) (Or.inl ⟨by rfl, ?_⟩) (by assumption) ?_
          rotate_left
          · intro w hSw; (try dsimp only at hSw); go_simp <;> with_reducible rfl
          try simp only [Act.put, List.setIfInBounds_toArray, List.set_cons_zero, List.set_cons_succ]
          refine wpAnyH_take (i := 14) (v := ?_) (by simp only [List.getElem?_toArray, List.getElem?_cons_succ, List.getElem?_cons_zero]; exact rfl) (by kernel_rfl) (by kernel_rfl) (by kernel_rfl) (by exact fun _ _ _ h => h) (Or.inl ⟨by rfl, ?_⟩) (by assumption) ?_
          rotate_left
          · intro w hSw; (try dsimp only at hSw); go_simp <;> with_reducible rfl
          try simp only [Act.put, List.setIfInBounds_toArray, List.set_cons_zero, List.set_cons_succ]
          refine wpAnyH_take (i := 15) (v := ?_) (by simp only [List.getElem?_toArray, List.getElem?_cons_succ, List.getElem?_cons_zero]; exact rfl) (by kernel_rfl) (by kernel_rfl) (by kernel_rfl) (by exact fun _ _ _ h => h) (Or.inl ⟨by rfl, ?_⟩) (by assumption) ?_
          rotate_left
          · intro w hSw; (try dsimp only at hSw); go_simp <;> with_reducible rfl
          try simp only [Act.put, List.setIfInBounds_toArray, List.set_cons_zero, List.set_cons_succ]
          refine wpAnyH_take (i := 16) (v := ?_) (by simp only [List.getElem?_toArray, List.getElem?_cons_succ, List.getElem?_cons_zero]; exact rfl) (by kernel_rfl) (by kernel_rfl) (by kernel_rfl) (by exact fun _ _ _ h => h) (Or.inl ⟨by rfl, ?_⟩) (by assumption) ?_
          rotate_left
          · intro w hSw; (try dsimp only at hSw); go_simp <;> with_reducible rfl
          try simp only [Act.put, List.setIfInBounds_toArray, List.set_cons_zero, List.set_cons_succ]
          refine wpAnyH_done (by kernel_rfl) ?_ _
          rotate_left
          clear hHeld
          go_wp2_with fail
          go_roundg gk
          case measure => omega
          case rel => exact ⟨k + 1, _, rfl, by omega, by first | rfl | go_num, by rw [HNX.out]; exact (HS.out.set k far).drew⟩
      · have d0 : decide ((0 : Int) < x.N) = false := decide_eq_false hN
        have HNX : Hid (Bo.farK x.N far x.dm (k + 1) = Bo.farK x.N far x.dm k) := Bo.farK_same fun h => hN h.1
        clear hN
        go_upto_region 9 with fail
        refine wp_region_held_drew (S := (fun U : World => U.cell? ⟨b1, 0, none⟩ = some (.int .i64 x.N))) (by kernel_rfl) (by (try dsimp only); exact HIN.out) (fun hHeld => ?_)
        refine wpAnyH_take (i := 0) (v := ?_) (by simp only [List.getElem?_toArray, List.getElem?_cons_zero]; exact rfl) (by kernel_rfl) (by kernel_rfl) (by kernel_rfl) (by exact fun _ _ _ h => h) (Or.inl ⟨by rfl, ?_⟩) (by assumption) ?_
        rotate_left
        · intro w hSw; (try dsimp only at hSw); go_simp <;> with_reducible rfl
        try simp only [Act.put, List.setIfInBounds_toArray, List.set_cons_zero, List.set_cons_succ]
        refine wpAnyH_take (i := 1) (v := ?_) (by simp only [List.getElem?_toArray, List.getElem?_cons_succ, List.getElem?_cons_zero]; exact rfl) (by kernel_rfl) (by kernel_rfl) (by kernel_rfl) (by exact fun _ _ _ h => h) (Or.inl ⟨by rfl, ?_⟩) (by assumption) ?_
        rotate_left
        · intro w hSw; (try dsimp only at hSw); go_simp <;> with_reducible rfl
        try simp only [Act.put, List.setIfInBounds_toArray, List.set_cons_zero, List.set_cons_succ]
        refine wpAnyH_take (i := 2) (v := ?_) (by simp only [List.getElem?_toArray, List.getElem?_cons_succ, List.getElem?_cons_zero]; exact rfl) (by kernel_rfl) (by kernel_rfl) (by kernel_rfl) (by exact fun _ _ _ h => h) (Or.inl ⟨by rfl, ?_⟩) (by assumption) ?_
        rotate_left
        · intro w hSw; (try dsimp only at hSw); go_simp <;> with_reducible rfl
        try simp only [Act.put, List.setIfInBounds_toArray, List.set_cons_zero, List.set_cons_succ]
        refine wpAnyH_take (i := 3) (v := ?_) (by simp only [List.getElem?_toArray, List.getElem?_cons_succ, List.getElem?_cons_zero]; exact rfl) (by kernel_rfl) (by kernel_rfl) (by kernel_rfl) (by exact fun _ _ _ h => h) (Or.inl ⟨by rfl, ?_⟩) (by assumption) ?_
        rotate_left
        · intro w hSw; (try dsimp only at hSw); go_simp <;> with_reducible rfl
        try simp only [Act.put, List.setIfInBounds_toArray, List.set_cons_zero, List.set_cons_succ]
        refine wpAnyH_take (i := 4) (v := ?_) (by simp only [List.getElem?_toArray, List.getElem?_cons_succ, List.getElem?_cons_zero]; exact rfl) (by kernel_rfl) (by kernel_rfl) (by kernel_rfl) (by exact fun _ _ _ h => h) (Or.inl ⟨by rfl, ?_⟩) (by assumption) ?_
        rotate_left
        · intro w hSw; (try dsimp only at hSw); go_simp <;> with_reducible rfl
        try simp only [Act.put, List.setIfInBounds_toArray, List.set_cons_zero, List.set_cons_succ]
        refine wpAnyH_take (i := 5) (v := undef) (by simp only [List.getElem?_toArray, List.getElem?_cons_succ, List.getElem?_cons_zero]; exact rfl) (by kernel_rfl) (by kernel_rfl) (by kernel_rfl) (by exact fun _ _ _ h => h) (Or.inr ⟨by rfl, rfl⟩) (by assumption) ?_
        try simp only [Act.put, List.setIfInBounds_toArray, List.set_cons_zero, List.set_cons_succ]
        refine wpAnyH_take (i := 6) (v := undef) (by simp only [List.getElem?_toArray, List.getElem?_cons_succ, List.getElem?_cons_zero]; exact rfl) (by kernel_rfl) (by kernel_rfl) (by kernel_rfl) (by exact fun _ _ _ h => h) (Or.inr ⟨by rfl, rfl⟩) (by assumption) ?_
        try simp only [Act.put, List.setIfInBounds_toArray, List.set_cons_zero, List.set_cons_succ]
        refine wpAnyH_take (i := 7) (v := undef) (by simp only [List.getElem?_toArray, List.getElem?_cons_succ, List.getElem?_cons_zero]; exact rfl) (by kernel_rfl) (by kernel_rfl) (by kernel_rfl) (by exact fun _ _ _ h => h) (Or.inr ⟨by rfl, rfl⟩) (by assumption) ?_
        try simp only [Act.put, List.setIfInBounds_toArray, List.set_cons_zero, List.set_cons_succ]
        refine wpAnyH_take (i := 8) (v := undef) (by simp only [List.getElem?_toArray, List.getElem?_cons_succ, List.getElem?_cons_zero]; exact rfl) (by kernel_rfl) (by kernel_rfl) (by kernel_rfl) (by exact fun _ _ _ h => h) (Or.inr ⟨by rfl, rfl⟩) (by assumption) ?_
        try simp only [Act.put, List.setIfInBounds_toArray, List.set_cons_zero, List.set_cons_succ]
        refine wpAnyH_take (i := 9) (v := undef) (by simp only [List.getElem?_toArray, List.getElem?_cons_succ, List.getElem?_cons_zero]; exact rfl) (by kernel_rfl) (by kernel_rfl) (by kernel_rfl) (by exact fun _ _ _ h => h) (Or.inr ⟨by rfl, rfl⟩) (by assumption) ?_
        try simp only [Act.put, List.setIfInBounds_toArray, List.set_cons_zero, List.set_cons_succ]
        refine wpAnyH_take (i := 10) (v := undef) (by simp only [List.getElem?_toArray, List.getElem?_cons_succ, List.getElem?_cons_zero]; exact rfl) (by kernel_rfl) (by kernel_rfl) (by kernel_rfl) (by exact fun _ _ _ h => h) (Or.inr ⟨by rfl, rfl⟩) (by assumption) ?_
        try simp only [Act.put, List.setIfInBounds_toArray, List.set_cons_zero, List.set_cons_succ]
        refine wpAnyH_take (i := 11) (v := undef) (by simp only [List.getElem?_toArray, List.getElem?_cons_succ, List.getElem?_cons_zero]; exact rfl) (by kernel_rfl) (by kernel_rfl) (by kernel_rfl) (by exact fun _ _ _ h => h) (Or.inr ⟨by rfl, rfl⟩) (by assumption) ?_
        try simp only [Act.put, List.setIfInBounds_toArray, List.set_cons_zero, List.set_cons_succ]
        refine wpAnyH_take (i := 12) (v := undef) (by simp only [List.getElem?_toArray, List.getElem?_cons_succ, List.getElem?_cons_zero]; exact rfl) (by kernel_rfl) (by kernel_rfl) (by kernel_rfl) (by exact fun _ _ _ h => h) (Or.inr ⟨by rfl, rfl⟩) (by assumption) ?_
        try simp only [Act.put, List.setIfInBounds_toArray, List.set_cons_zero, List.set_cons_succ]
        refine wpAnyH_take (i := 13) (v := undef) (by simp only [List.getElem?_toArray, List.getElem?_cons_succ, List.getElem?_cons_zero]; exact rfl) (by kernel_rfl) (by kernel_rfl) (by kernel_rfl) (by exact fun _ _ _ h => h) (Or.inr ⟨by rfl, rfl⟩) (by assumption) ?_
        try simp only [Act.put, List.setIfInBounds_toArray, List.set_cons_zero, List.set_cons_succ]
        refine wpAnyH_take (i := 14) (v := undef) (by simp only [List.getElem?_toArray, List.getElem?_cons_succ, List.getElem?_cons_zero]; exact rfl) (by kernel_rfl) (by kernel_rfl) (by kernel_rfl) (by exact fun _ _ _ h => h) (Or.inr ⟨by rfl, rfl⟩) (by assumption) ?_
        try simp only [Act.put, List.setIfInBounds_toArray, List.set_cons_zero, List.set_cons_succ]
        refine wpAnyH_take (i := 15) (v := undef) (by simp only [List.getElem?_toArray, List.getElem?_cons_succ, List.getElem?_cons_zero]; exact rfl) (by kernel_rfl) (by kernel_rfl) (by kernel_rfl) (by exact fun _ _ _ h => h) (Or.inr ⟨by rfl, rfl⟩) (by assumption) ?_
        try simp only [Act.put, List.setIfInBounds_toArray, List.set_cons_zero, List.set_cons_succ]
        refine wpAnyH_take (i := 16) (v := ?_) (by simp only [List.getElem?_toArray, List.getElem?_cons_succ, List.getElem?_cons_zero]; exact rfl) (by kernel_rfl) (by kernel_rfl) (by kernel_rfl) (by exact fun _ _ _ h => h) (Or.inl ⟨by rfl, ?_⟩) (by assumption) ?_
        rotate_left
        · intro w hSw; (try dsimp only at hSw); go_simp <;> with_reducible rfl
        try simp only [Act.put, List.setIfInBounds_toArray, List.set_cons_zero, List.set_cons_succ]
        refine wpAnyH_done (by kernel_rfl) ?_ _
        rotate_left
        clear hHeld
        go_wp2_with fail
        go_roundg gk
        case measure => omega
        case rel => exact ⟨k + 1, _, rfl, by omega, by first | rfl | go_num, by rw [HNX.out]; exact HS.out.drew⟩
    · have HKX : Hid (k = x.dm) := by unfold Hid; omega
      obtain ⟨y, hy, hyk, hyN, hyD, hydm⟩ := FS.wx HS.out HWA.out (by rw [Bo.farK_len]) HCAP.out
      have HY := Lib.hid hy
      have HYK := Lib.hid hyk
      have HYD : Hid (y.D = Bo.farK y.N far y.dm y.dm) := by unfold Hid; rw [hyD, hyN, hydm, HKX.out]
      have HB4 := Lib.hid HS.out.bel
      have HI4 := Lib.hid (HL.out.below HB4.out)
      have hyk2 := hy.at_.k2
      have hym2 := hy.at_.m2
      clear hy hyk hyN hyD hydm HS HKX HCAP HWA
      obtain ⟨rm, hrm⟩ : ∃ z, Bo.makeS y.N y.D y.T y.os y.ts l = z := ⟨_, rfl⟩
      have HRM := Lib.hid hrm
      have HC := Lib.hid (make_b y A n c l W0 rm hrm HY.out.at_ HYK.out HN.out (by omega) HI4.out)
      clear hrm
      have c0 := HY.out.c0
      have c1 := HY.out.c1
      have c2 := HY.out.c2
      have c3 := HY.out.c3
      have c4 := HY.out.c4
      go_wp2_with fail
      clear c0 c1 c2 c3 c4 hlt
      with_reducible refine HC.out.mono ?_
      rintro e w5 ⟨m, rfl, hmc, hm⟩
      have HMC := Lib.hid hmc
      have HX5 : Hid (FB (w5.alloc (.cells #[.slice m.iA m.im m.ic, .slice m.nA m.nm m.nc, .int .i64 m.back, .int .i64 m.rate, .int .i64 m.fixed, .int .i64 m.bound] 31)) b1 w5.heap.size y m A l) := ⟨(HY.out.below hm.out.1).below (below_alloc w5 (.cells #[.slice m.iA m.im m.ic, .slice m.nA m.nm m.nc, .int .i64 m.back, .int .i64 m.rate, .int .i64 m.fixed, .int .i64 m.bound] 31)), CX.new hm.out.2, (HI4.out.below hm.out.1).below (below_alloc w5 (.cells #[.slice m.iA m.im m.ic, .slice m.nA m.nm m.nc, .int .i64 m.back, .int .i64 m.rate, .int .i64 m.fixed, .int .i64 m.bound] 31))⟩
      have HB5 := Lib.hid (below_more (below_next HB4.out hm.out.1) (.cells #[.slice m.iA m.im m.ic, .slice m.nA m.nm m.nc, .int .i64 m.back, .int .i64 m.rate, .int .i64 m.fixed, .int .i64 m.bound] 31))
      clear hmc hm HC HY HI4 HB4
      by_cases h0 : rm.2 = 0
      · have d1 : (rm.2 != (0 : Int)) = false := by rw [h0]; rfl
        have HWE : Hid (Rt.worldE y.N y.D y.T y.os y.ts = 0) := (Bo.make_is (by rw [HRM.out]; exact h0)).1
        have HC := Lib.hid (rworld_b y (w5.alloc (.cells #[.slice m.iA m.im m.ic, .slice m.nA m.nm m.nc, .int .i64 m.back, .int .i64 m.rate, .int .i64 m.fixed, .int .i64 m.bound] 31)) 0 HWE.out HX5.out.w.at_)
        have HR0 := Lib.hid h0
        clear h0
        have c0 := HX5.out.w.c0
        have c1 := HX5.out.w.c1
        have c2 := HX5.out.w.c2
        have c3 := HX5.out.w.c3
        have c4 := HX5.out.w.c4
        go_wp2_with fail
        clear c0 c1 c2 c3 c4
        generalize w5.alloc (.cells #[.slice m.iA m.im m.ic, .slice m.nA m.nm m.nc, .int .i64 m.back, .int .i64 m.rate, .int .i64 m.fixed, .int .i64 m.bound] 31) = V5 at *
        generalize w5.heap.size = b4 at *
        with_reducible refine HC.out.mono ?_
        rintro e V ⟨rfl, h6⟩
        have HX := Lib.hid (HX5.out.below h6.out)
        have HB := Lib.hid (below_next HB5.out h6.out)
        clear HC HX5 HB5 h6
        have d2 : ((0 : Int) != (0 : Int)) = false := by decide
        by_cases hn0 : n = 0
        · have d3 : ((n : Int) == (0 : Int)) = true := by rw [hn0]; rfl
          have hb0 : m.bound = 0 := by
            have e : l = [] := List.length_eq_zero_iff.1 (by rw [HN.out]; exact hn0)
            have h1 := HMC.out
            rw [← HRM.out, e, Bo.make_nil HWE.out] at h1
            exact congrArg Bo.C.bound h1
          have d4 : (m.bound == (0 : Int)) = true := by rw [hb0]; rfl
          have m5 := HX.out.c.c5
          clear hn0 hb0
          go_wp2_with fail
          go_ret
          exact ⟨rfl, HB.out⟩
        · have d3 : ((n : Int) == (0 : Int)) = false := beq_eq_false_iff_ne.2 (by omega)
          have HFO : Hid (Bo.FarOk y.os y.ts l far m.c) := by
            have h := Bo.far_ok (N := y.N) (far := far) (D := y.D) (T := y.T) (os := y.os) (ts := y.ts) (l := l) (by rw [HRM.out]; exact HR0.out) (fun e => hn0 (by rw [← HN.out, e]; rfl)) HYD.out HFR.out.1
            rw [HRM.out, ← HMC.out] at h
            exact h
          have hmi : m.im = n := by rw [← HX.out.c.at_.il, ← HN.out]; exact HFO.out.il
          have hmn : m.nm = n := by rw [← HX.out.c.at_.nl, ← HN.out]; exact HFO.out.nl
          have hmb : m.back = far := HFO.out.back
          have HMI := Lib.hid hmi
          have HMN := Lib.hid hmn
          have HMB := Lib.hid hmb
          clear hn0 hmi hmn hmb HMC HRM HR0 HWE HYD
          have HM0 : Hid (Below V.heap.size V ((V.alloc (.map #[] 0)).alloc (.map #[] 0)) ∧ MapI ((V.alloc (.map #[] 0)).alloc (.map #[] 0)) V.heap.size 0 (fun _ => 0) ∧ MapI ((V.alloc (.map #[] 0)).alloc (.map #[] 0)) (V.heap.size + 1) 0 (fun _ => 0)) := by
            refine ⟨below_more (below_alloc _ _) _, (MapI.made _).below (below_alloc _ _), ?_⟩
            rw [size_one V (.map #[] 0)]
            exact MapI.made _
          have hmm := @run_makeMap Try.prog
          have a3 := (HX.out.below HM0.out.1).w.c3
          go_wp2_with fail
          clear a3 hmm d1 d2 d3
          generalize (V.alloc (.map #[] 0)).alloc (.map #[] 0) = V7 at *
          have HN1 : Hid (V.heap.size ≠ V.heap.size + 1) := by unfold Hid; omega
          have HN2 : Hid (V.heap.size ≤ V.heap.size + 1) := by unfold Hid; omega
          generalize V.heap.size + 1 = m2 at *
          obtain ⟨m1, hm1⟩ : ∃ m, V.heap.size = m := ⟨_, rfl⟩
          rw [hm1] at HM0 HN1 HN2 ⊢
          have HME := Lib.hid hm1
          clear hm1
          go_loopg [100] y.m (fun gk s100 W => ∃ (k : Nat) (W0 : World), W0 = W ∧ k + gk = y.m ∧ s100 = .int .i64 (k : Int) ∧ Hid (Below m1 V W0) ∧ Hid (MapI W0 m2 k (Bo.ndm (y.os.take k))) ∧ Hid (MapI W0 m1 0 (fun _ => 0)))
          case atStart => exact ⟨0, _, rfl, by omega, rfl, HM0.out.1, HM0.out.2.2, HM0.out.2.1⟩
          case round =>
            obtain ⟨k, W1, rfl, hkg, rfl, HK, HMN2, HMA⟩ := hrel
            have HK' : Hid (Below V.heap.size V W1) := by rw [HME.out]; exact HK.out
            by_cases hlt : k < y.m
            · obtain ⟨gj, rfl⟩ : ∃ i, gk = i + 1 := ⟨gk - 1, by omega⟩
              obtain ⟨o, ho⟩ := mlist_at y.os k (by rw [HX.out.w.at_.ml]; exact hlt)
              obtain ⟨ad, hA, hc⟩ := (HX.out.below HK'.out).w.at_.os.at_ ho
              have HNX := Lib.hid (Bo.ndm_take ho)
              have HIN : Hid (1 ≤ o.id ∧ o.id ≤ 1000000 ∧ 0 ≤ o.node ∧ o.node ≤ 16) := HFO.out.oo o (List.mem_of_getElem? ho)
              obtain ⟨c0, c1, c2, c3, c4, c5, c6, c7⟩ := hc
              obtain ⟨a0, a1, a2, a3, a4, a5, a6, a7⟩ := o
              simp only at c0 c1 c2 c3 c4 c5 c6 c7 HNX HIN
              have i4 : (k : Int) < (y.m : Int) := by omega
              have HR1 : Hid (InR a0 ∧ InR a2) := by have := HIN.out; unfold Hid InR; omega
              have HPT := Lib.hid (MapI.put (HMN2.out.below (below_alloc W1 (.cells #[.int .i64 a0, .int .i64 a1, .int .i64 a2, .int .i64 a3, .int .i64 a4, .int .i64 a5, .int .i64 a6, .int .i64 a7] 57))) HR1.out.1 HR1.out.2 (by omega))
              have HA9 := Lib.hid (HMA.out.below (below_alloc W1 (.cells #[.int .i64 a0, .int .i64 a1, .int .i64 a2, .int .i64 a3, .int .i64 a4, .int .i64 a5, .int .i64 a6, .int .i64 a7] 57)))
              have HB9 : Hid (Below m1 V (W1.alloc (.cells #[.int .i64 a0, .int .i64 a1, .int .i64 a2, .int .i64 a3, .int .i64 a4, .int .i64 a5, .int .i64 a6, .int .i64 a7] 57))) := by rw [← HME.out]; exact below_more HK'.out _
              have HSA := Lib.hid hA
              clear ho hA HIN HR1
              generalize y.A = sA at *
              obtain rfl := HSA.out
              go_wp2_with (at_mapUpdate; refine wpList_mapUpdate_any rfl (.tmp 104) (.tmp 106) (.tmp 108) 55 rfl _ _ _ rfl rfl rfl _ HPT.out ?_; intro w5 h5)
              go_roundg gj
              case measure => omega
              case rel => exact ⟨k + 1, _, rfl, by omega, by first | rfl | go_num, Below.grown HB9.out h5.out.2 (Nat.le_of_lt HA9.out.lt) (fun i e => by injection e with e; rw [← e]; exact HN2.out), by rw [HNX.out]; exact h5.out.1, HA9.out.at_ (grown_other h5.out.2 _ HA9.out.lt HN1.out)⟩
            · have HND : Hid (MapI W1 m2 y.m (Bo.ndm y.os)) := by
                have h := HMN2.out
                rw [List.take_of_length_le (by rw [HX.out.w.at_.ml]; omega), show k = y.m by omega] at h
                exact h
              have HCN : Hid (MapI W1 m1 0 (Bo.cnt ((l.take 0).map (Bo.ndm y.os)))) := HMA.out
              clear HMN2 HMA
              go_wp2_with fail
              go_loopg [112] n (fun gk s112 W => ∃ (k : Nat) (W0 : World), W0 = W ∧ k + gk = n ∧ s112 = .int .i64 (k : Int) ∧ Hid (Below m1 V W0) ∧ Hid (MapI W0 m2 y.m (Bo.ndm y.os)) ∧ Hid (MapI W0 m1 k (Bo.cnt ((l.take k).map (Bo.ndm y.os)))))
              case atStart => exact ⟨0, _, rfl, by omega, rfl, HK.out, HND.out, HCN.out⟩
              case round =>
                obtain ⟨k, W2, rfl, hkg, rfl, HK2, HN9, HCT⟩ := hrel
                have HK2' : Hid (Below V.heap.size V W2) := by rw [HME.out]; exact HK2.out
                by_cases hlt : k < n
                · obtain ⟨gi, rfl⟩ : ∃ i, gk = i + 1 := ⟨gk - 1, by omega⟩
                  obtain ⟨id, hid⟩ := mlist_at l k (by rw [HN.out]; exact hlt)
                  obtain ⟨sd, hA, hc⟩ := (HX.out.below HK2'.out).i k id hid
                  have HNX := Lib.hid (Bo.cnt_take hid (Bo.ndm y.os))
                  obtain ⟨nd, hnd⟩ : ∃ z, Bo.ndm y.os id = z := ⟨_, rfl⟩
                  obtain ⟨cn, hcn⟩ : ∃ z, Bo.cnt ((l.take k).map (Bo.ndm y.os)) nd = z := ⟨_, rfl⟩
                  have HR1 : Hid (InR id ∧ InR nd) := by
                    have h1 := HFO.out.ids id (List.mem_of_getElem? hid)
                    have h2 := HFO.out.nod id
                    rw [hnd] at h2
                    unfold Hid InR
                    omega
                  have hcr : 0 ≤ cn ∧ cn ≤ (k : Int) := by
                    have h1 := Bo.cnt_le ((l.take k).map (Bo.ndm y.os)) nd
                    rw [hcn, List.length_map] at h1
                    have h2 := List.length_take_le k l
                    omega
                  have HR2 : Hid (InR (cn + 1)) := by unfold Hid InR; omega
                  have hw1 : IntKind.i64.wrap (cn + 1) = cn + 1 := IntWalk.i64_in _ (by omega)
                  have hl1 := MapI.look HN9.out HR1.out.1 nd hnd
                  have hl2 := MapI.look HCT.out HR1.out.2 cn hcn
                  have HPT := Lib.hid (MapI.put HCT.out HR1.out.2 HR2.out (by omega))
                  rw [hnd, hcn] at HNX
                  have i4 : (k : Int) < (n : Int) := by omega
                  clear hid hnd hcn hcr HR1 HR2
                  obtain rfl := hA
                  go_wp2_with (at_mapUpdate; refine wpList_mapUpdate_any rfl (.tmp 116) (.tmp 119) (.tmp 121) 55 rfl _ _ _ rfl rfl rfl _ HPT.out ?_; intro w5 h5)
                  go_roundg gi
                  case measure => omega
                  case rel => exact ⟨k + 1, _, rfl, by omega, by first | rfl | go_num, Below.grown HK2.out h5.out.2 (Nat.le_of_lt HCT.out.lt) (fun i e => by injection e with e; rw [← e]; exact Nat.le_refl _), HN9.out.at_ (grown_other h5.out.2 _ HN9.out.lt HN1.out.symm), by rw [HNX.out]; exact h5.out.1⟩
                · have HCA : Hid (MapI W2 m1 n (Bo.cnt (l.map (Bo.ndm y.os)))) := by
                    have h := HCT.out
                    rw [List.take_of_length_le (by rw [HN.out]; omega), show k = n by omega] at h
                    exact h
                  have HX2 := Lib.hid (HX.out.below HK2'.out)
                  have m0 := HX2.out.c.c0
                  have m1' := HX2.out.c.c1
                  have m2' := HX2.out.c.c2
                  rw [HMI.out] at m0
                  rw [HMN.out] at m1'
                  rw [HMB.out] at m2'
                  have d1 : ((n : Int) != (n : Int)) = false := by simp
                  have d2 : (far != far) = false := by simp
                  clear HCT
                  go_wp2_with fail
                  clear m0 m1' m2' d1 d2
                  have hinn : ∀ z ∈ m.inn, z = 0 ∨ z = far := fun z hz => by
                    obtain ⟨i, hi⟩ := List.getElem?_of_mem hz
                    obtain ⟨id, _, _, e⟩ := HFO.out.at_ i (by rw [← HFO.out.nl]; exact (List.getElem?_eq_some_iff.1 hi).1)
                    have e2 : some z = some _ := hi.symm.trans e
                    injection e2 with e2
                    rw [e2]
                    split
                    · exact .inl rfl
                    · exact .inr rfl
                  have HINN := Lib.hid hinn
                  clear hinn hlt
                  go_loopg [16, 147] n (fun gk s16 s147 W => ∃ (k : Nat) (W0 : World), W0 = W ∧ k + gk = n ∧ s16 = .int .i64 (far + (m.inn.take k).sum) ∧ s147 = .int .i64 (k : Int) ∧ Hid (Below m1 V W0) ∧ Hid (MapI W0 m2 y.m (Bo.ndm y.os)) ∧ Hid (MapI W0 m1 n (Bo.cnt (l.map (Bo.ndm y.os)))))
                  case atStart => exact ⟨0, _, rfl, by omega, by simp, rfl, HK2.out, HN9.out, HCA.out⟩
                  case round =>
                    clear HN9 HCA HX2 HK2 HK2'
                    obtain ⟨k, W3, rfl, hkg, rfl, rfl, HK3, HND3, HCA3⟩ := hrel
                    have HK3' : Hid (Below V.heap.size V W3) := by rw [HME.out]; exact HK3.out
                    have HX3 := Lib.hid (HX.out.below HK3'.out)
                    obtain ⟨sm, hsm⟩ : ∃ z, far + (m.inn.take k).sum = z := ⟨_, rfl⟩
                    have hsr : 0 ≤ sm ∧ sm ≤ 1000000 * (k : Int) + 1000000 := by
                      have := sum_in HFR.out HINN.out k
                      have := HFR.out
                      omega
                    rw [hsm]
                    by_cases hlt : k < n
                    · obtain ⟨gi, rfl⟩ : ∃ i, gk = i + 1 := ⟨gk - 1, by omega⟩
                      obtain ⟨id, hid, hir, hz⟩ := HFO.out.at_ k (by rw [HN.out]; exact hlt)
                      obtain ⟨nd, hnd⟩ : ∃ z, Bo.ndm y.os id = z := ⟨_, rfl⟩
                      obtain ⟨cn, hcn⟩ : ∃ z, Bo.cnt (l.map (Bo.ndm y.os)) nd = z := ⟨_, rfl⟩
                      rw [hnd, hcn] at hz
                      obtain ⟨z, hzz⟩ : ∃ z, (if 1 < cn then 0 else far) = z := ⟨_, rfl⟩
                      rw [hzz] at hz
                      obtain ⟨sA, hA1, hc1⟩ := HX3.out.c.at_.nn k z hz
                      obtain ⟨sB, hB1, hc2⟩ := HX3.out.c.at_.ii k id hid
                      have HR1 : Hid (InR id ∧ InR nd) := by
                        have h2 := HFO.out.nod id
                        rw [hnd] at h2
                        unfold Hid InR
                        omega
                      have hl1 := MapI.look HND3.out HR1.out.1 nd hnd
                      have hl2 := MapI.look HCA3.out HR1.out.2 cn hcn
                      have hfr := HFR.out
                      have hw1 : IntKind.i64.wrap (sm + z) = sm + z := IntWalk.i64_in _ (by rw [← hzz]; split <;> omega)
                      have HNX : Hid (sm + z = far + (m.inn.take (k + 1)).sum) := by
                        have hz2 : m.inn[k]? = some z := hz
                        unfold Hid
                        rw [← hsm, List.take_add_one, hz2]
                        simp only [Option.toList, List.sum_append, List.sum_cons, List.sum_nil]
                        omega
                      have m0 := HX3.out.c.c0
                      rw [HMI.out] at m0
                      have HA1 := Lib.hid hA1
                      have HB1 := Lib.hid hB1
                      have i4 : (k : Int) < (n : Int) := by omega
                      have HZZ := Lib.hid hzz
                      clear hid hz hnd hcn hsm hsr hir hA1 hB1 hfr hzz HR1
                      generalize m.nA = nA at *
                      generalize m.iA = iA at *
                      obtain rfl := HA1.out
                      obtain rfl := HB1.out
                      by_cases h1 : 1 < cn
                      · have d1 : decide ((1 : Int) < cn) = true := decide_eq_true h1
                        have d2 : (z != (0 : Int)) = false := by rw [← HZZ.out, if_pos h1]; rfl
                        clear h1
                        go_wp2_with fail
                        go_roundg gi
                        case measure => omega
                        case rel => exact ⟨k + 1, _, rfl, by omega, by rw [HNX.out], by first | rfl | go_num, HK3.out, HND3.out, HCA3.out⟩
                      · have d1 : decide ((1 : Int) < cn) = false := decide_eq_false h1
                        have d2 : (z != far) = false := by rw [← HZZ.out, if_neg h1]; simp
                        clear h1
                        go_wp2_with fail
                        go_roundg gi
                        case measure => omega
                        case rel => exact ⟨k + 1, _, rfl, by omega, by rw [HNX.out], by first | rfl | go_num, HK3.out, HND3.out, HCA3.out⟩
                    · have HSM : Hid (sm = m.inn.sum + m.back) := by
                        unfold Hid
                        have e1 : m.inn.length = n := HFO.out.nl.trans HN.out
                        rw [← hsm, List.take_of_length_le (by omega), HMB.out]
                        omega
                      have hsr2 : 0 ≤ sm ∧ sm ≤ 101000000 := by omega
                      have HSR := Lib.hid hsr2
                      have y4 := HX3.out.w.c4
                      clear hsm hsr hsr2 HND3 HCA3 HX3 HINN
                      go_wp2_with fail
                      clear y4
                      go_loopg [173] y.k (fun gk s173 W => ∃ (k : Nat) (W0 : World), W0 = W ∧ k + gk = y.k ∧ s173 = .int .i64 (k : Int) ∧ Hid (Below m1 V W0))
                      case atStart => exact ⟨0, _, rfl, by omega, rfl, HK3.out⟩
                      case round =>
                        clear HK3 HK3' hlt
                        obtain ⟨k, W4, rfl, hkg, rfl, HK4⟩ := hrel
                        have HK4' : Hid (Below V.heap.size V W4) := by rw [HME.out]; exact HK4.out
                        have HX4 := Lib.hid (HX.out.below HK4'.out)
                        by_cases hlt : k < y.k
                        · obtain ⟨gi, rfl⟩ : ∃ i, gk = i + 1 := ⟨gk - 1, by omega⟩
                          obtain ⟨t, ht⟩ := mlist_at y.ts k (by rw [HX4.out.w.at_.kl]; exact hlt)
                          obtain ⟨ad, hB, hc⟩ := HX4.out.w.at_.ts.at_ ht
                          have hrt := HFO.out.rate t (List.mem_of_getElem? ht)
                          obtain ⟨c0, c1, c2, c3, c4, c5, c6⟩ := hc
                          obtain ⟨t0, t1, t2, t3, t4, t5, t6⟩ := t
                          simp only at c0 c1 c2 c3 c4 c5 c6 hrt
                          have i4 : (k : Int) < (y.k : Int) := by omega
                          have e1 : m.rate ≤ t6 := hrt.1
                          have e2 : m.fixed ≤ t5 := hrt.2
                          have d1 : decide (t6 < m.rate) = false := decide_eq_false (by omega)
                          have d2 : decide (t5 < m.fixed) = false := decide_eq_false (by omega)
                          have HX5 := Lib.hid (HX4.out.below (below_alloc W4 (.cells #[.int .i64 t0, .int .i64 t1, .int .i64 t2, .int .i64 t3, .int .i64 t4, .int .i64 t5, .int .i64 t6] 59)))
                          have HB9 : Hid (Below m1 V (W4.alloc (.cells #[.int .i64 t0, .int .i64 t1, .int .i64 t2, .int .i64 t3, .int .i64 t4, .int .i64 t5, .int .i64 t6] 59))) := by rw [← HME.out]; exact below_more HK4'.out _
                          have m3 := HX5.out.c.c3
                          have m4 := HX5.out.c.c4
                          have HSB := Lib.hid hB
                          clear ht hB hrt e1 e2
                          generalize y.B = sB at *
                          obtain rfl := HSB.out
                          go_wp2_with fail
                          go_roundg gi
                          case measure => omega
                          case rel => exact ⟨k + 1, _, rfl, by omega, by first | rfl | go_num, HB9.out⟩
                        · have m3 := HX4.out.c.c3
                          have m4 := HX4.out.c.c4
                          have m5 := HX4.out.c.c5
                          have HPR : Hid (0 ≤ m.rate * sm ∧ m.rate * sm ≤ 101000000000) := by
                            have h1 : 0 ≤ m.rate ∧ m.rate ≤ 1000 := HFO.out.lim.1
                            have h2 := HSR.out
                            refine ⟨Int.mul_nonneg h1.1 h2.1, ?_⟩
                            have h3 := Int.mul_le_mul h1.2 h2.2 h2.1 (by omega : (0 : Int) ≤ 1000)
                            omega
                          have HFX : Hid (0 ≤ m.fixed ∧ m.fixed ≤ 1000000) := HFO.out.lim.2
                          have HBD : Hid (m.bound = m.fixed + m.rate * sm) := by
                            have h1 : m.bound = m.fixed + m.rate * (m.inn.sum + m.back) := HFO.out.bound
                            rw [← HSM.out] at h1
                            exact h1
                          have w1 : IntKind.i64.wrap (m.rate * sm) = m.rate * sm := IntWalk.i64_in _ (by have := HPR.out; omega)
                          have w2 : IntKind.i64.wrap (m.fixed + m.rate * sm) = m.fixed + m.rate * sm := IntWalk.i64_in _ (by have := HPR.out; have := HFX.out; omega)
                          have d9 : (m.bound == m.fixed + m.rate * sm) = true := by rw [HBD.out]; simp
                          go_wp2_with fail
                          go_ret
                          exact ⟨rfl, below_next HB.out HK4'.out⟩
      · have d1 : (rm.2 != (0 : Int)) = true := bne_iff_ne.2 h0
        have hb0 : m.bound = 0 := by
          have h1 := HMC.out
          rw [← HRM.out, Bo.make_err (by rw [HRM.out]; exact h0)] at h1
          exact congrArg Bo.C.bound h1
        have d4 : (m.bound == (0 : Int)) = true := by rw [hb0]; rfl
        have m5 := HX5.out.c.c5
        clear h0 hb0
        go_wp2_with fail
        go_ret
        exact ⟨rfl, HB5.out⟩

set_option maxRecDepth 100000 in
theorem lifted (os : Os) (started : os.Started) (H : Type) (enc : TypeId × Value → H) :
    ReturnsInHanded {} Try.checked os 6 .any (Rows.boundFarSpec.pre6 enc Try.prog Try.f6 Rows.boundFarRow.domain false) (Rows.boundFarSpec.post enc Try.prog Try.f6 false true false false) := by
  refine returnsInHanded_of_change_sized (C := Try.checked) own started (by kernel_rfl) Try.func6
    (ChangeSpec.witness6 (enc := enc) (C := Try.checked) false ⟨#[], #[.agg #[.int .i64 0, .slice none 0 0, .slice none 0 0, .slice none 0 0, .slice none 0 0], .slice none 0 0, .int .i64 0], []⟩ 8 (by kernel_rfl) (by kernel_rfl) (by kernel_rfl) (by kernel_rfl)) ?_
  intro W base args ds gs before hval0 hW _ hsz0 _
  have hsz : (DataW.weightsEach Try.prog (Try.f6.params.toList ++ Rows.boundFarSpec.plain.varTypes Try.prog) (ds ++ gs)).all (· ≤ reachBytes) = true := hsz0
  have hval : ∀ (j : Nat) t v, Try.f6.params[j]? = some t → args[j]? = some v → Value.okWide Try.prog W .any base t v := hval0
  have hW' := hW
  obtain ⟨p, q, hA0, hV, rfl, hfz, hnd⟩ := hW
  have hA : DataW.TrodAll enc Try.prog W 0 (fun _ => true) true Try.f6.params.toList args.toList ds p := hA0
  rw [Try.params6] at hA hval hsz
  obtain ⟨v0, vs0, d0, ds0, p0, q0, hargs, rfl, rfl, h0, r0⟩ := trodAll_cons hA
  obtain ⟨v1, vs1, d1, ds1, p1, q1, rfl, rfl, rfl, h1, r1⟩ := trodAll_cons r0
  obtain ⟨v2, vs2, d2, ds2, p2, q2, rfl, rfl, rfl, h2, r2⟩ := trodAll_cons r1
  obtain ⟨rfl, rfl, rfl⟩ := trodAll_nil r2
  obtain rfl : args = #[v0, v1, v2] := by cases args; simp_all
  obtain ⟨rfl, rfl⟩ := trodVars_none hV
  have k0 := h0
  have lt0 : ∀ x ∈ p0, x.block < W.heap.size := by obtain ⟨m, hm⟩ := k0; exact DataW.trod_lt m _ _ _ hm
  obtain ⟨x0, rfl, hv0, hk0, hd0⟩ := open_world_cap (hval 0 28 v0 rfl rfl) h0
  have k1 := h1
  have lt1 : ∀ x ∈ p1, x.block < W.heap.size := by obtain ⟨m, hm⟩ := k1; exact DataW.trod_lt m _ _ _ hm
  obtain ⟨a1, len1, cap1, l1, rfl, hl1, hlc1, hcm1, hv1⟩ := open_nodes (hval 1 29 v1 rfl rfl) h1
  obtain ⟨a2, rfl, rfl, rfl, w2⟩ := open_int Try.underlying2 (hval 2 2 v2 rfl rfl) h2
  clear hA0 hval0
  refine (walk x0 hv0 hk0 hd0 a1 len1 cap1 l1 hl1 hlc1 hcm1 hv1 a2 w2).mono fun e W' ⟨he, bel⟩ => ?_
  subst he
  exact ⟨_, rfl, _, _, _, [], _, [], hW', trodAll_mk1 (shut_bool Try.underlying4 _), (trodAll_cons_mk (Below.trod laidOut (by kernel_rfl) (of_decide_eq_true (by kernel_rfl)) k0 bel lt0) (trodAll_cons_mk (Below.trod laidOut (by kernel_rfl) (of_decide_eq_true (by kernel_rfl)) k1 bel lt1) (trodAll_cons_mk (shut_int Try.underlying2 w2) trodAll_mk0))), rfl, bel.frame _, fun h => by cases h⟩

theorem over : Rows.boundFarRow.holds Try.pinned (OpenSpec.ofChange Rows.boundFarSpec) :=
  OpenClaim.holds_of_wide 6 Try.f6 rfl rfl rfl rfl rfl rfl rfl ⟨rfl, rfl, rfl, rfl, rfl⟩ rfl rfl rfl rfl rfl (by kernel_rfl) Try.func6 (by kernel_rfl)
    (of_decide_eq_true (by kernel_rfl)) (by unfold Func.isWrapper; first | (rw [if_pos (by decide +kernel)]; kernel_rfl) | (rw [if_neg (by decide +kernel)]; exact ⟨rfl, rfl⟩))
    (fun os started H enc _ => lifted os started H enc)

theorem proved : Rows.BoundFarSaid := over
end Go.Proofs.Ytbacakblboodeaa.boundFar
