/- The law's own trip of the document's, and whether two are the same. -/
import Derived.Test.YtihnkklnkcideaaRouteRC
namespace Go.Proofs.Ytihnkklnkcideaa
open Go.RowKit
set_option linter.unusedVariables false
set_option maxRecDepth 100000

/-- the document's trip while it is copied -/
structure DW (p q s : Int) (w0 : World) (g : Nat) (A : Option Addr) (n c : Nat) (vs : List Rt.V) (W : World) : Prop where
  bel : Below w0.heap.size w0 W
  hg : w0.heap.size ≤ g
  box : Box W g #[.slice A n c, .int .i64 p, .int .i64 q, .int .i64 s] 42
  own : OwnD W (g + 1) (.slice A n c) vs
theorem DW.below {p q s : Int} {w0 W W' : World} {g : Nat} {A : Option Addr} {n c : Nat} {vs : List Rt.V} (h : DW p q s w0 g A n c vs W) (hb : Below W.heap.size W W') : DW p q s w0 g A n c vs W' :=
  ⟨below_next h.bel hb, h.hg, h.box.below hb, h.own.blocks fun k _ hk => hb.block k hk⟩
theorem DW.start (p q s : Int) (w : World) : DW p q s w w.heap.size none 0 0 [] (w.alloc (.cells #[.slice none 0 0, .int .i64 p, .int .i64 q, .int .i64 s] 42)) := ⟨below_alloc _ _, Nat.le_refl _, Box.new _ _ _, OwnR.none _ _ _ _ _⟩
/-- what putting one more visit in leaves -/
def PutW (p q s : Int) (w0 : World) (g : Nat) (X : Option Addr) (n cx n' : Nat) (vs' : List Rt.V) (v' : Value) (w5 : World) : Prop :=
  ∃ A cp, v' = .slice A n' cp ∧ w5.cell? ⟨g, 0, none⟩ = some (.slice X n cx) ∧ w5.frozen? ⟨g, 0, none⟩ = false ∧ Hid (DW p q s w0 g A n' cp vs' (w5.setCell ⟨g, 0, none⟩ (.slice A n' cp)))
theorem DW.put {p q s : Int} {w0 W : World} {g : Nat} {X : Option Addr} {n cx : Nat} {vs : List Rt.V} (h : DW p q s w0 g X n cx vs W) (v0 v1 v2 v3 : Int) (vs' : List Rt.V) (n' : Nat) (hvs : vs ++ [⟨v0, v1, v2, v3⟩] = vs') (hn : vs'.length = n') (hs : vs.length ≤ 1000) :
    ∃ v' w', (Builtin.append_ #[40, 40] 40 #[.slice X n cx, .slice (some ⟨W.heap.size, 0, none⟩) 1 1]).run Try.prog (W.alloc (.cells #[.int .i64 v0, .int .i64 v1, .int .i64 v2, .int .i64 v3] 66)) = .ok v' w' ∧ PutW p q s w0 g X n cx n' vs' v' w' := by
  subst hvs hn
  obtain ⟨i0, hi0, hz0, hz1, hz2⟩ := info_parts4 dvisit_info
  have hbx0 : Box (W.alloc (.cells #[.int .i64 v0, .int .i64 v1, .int .i64 v2, .int .i64 v3] 66)) W.heap.size #[.int .i64 v0, .int .i64 v1, .int .i64 v2, .int .i64 v3] 66 := Box.new _ _ _
  have hgl := h.box.lt
  obtain ⟨v', w5, h1, h2, h3, _⟩ := run_append_own (P := Try.prog) (W.alloc (.cells #[.int .i64 v0, .int .i64 v1, .int .i64 v2, .int .i64 v3] 66)) (g + 1) 40 40 66 i0 _ 4 32 Try.underlying40 hi0 hz0 hz1 hz2 rfl (by omega) (.slice X n cx) vs.length ((vs.flatMap Rt.V.ints).map (Value.int .i64)) (h.own.blocks fun k _ hk => heap_alloc_old W _ hk) ⟨W.heap.size, 0, none⟩ 1 1 ((Rt.V.ints ⟨v0, v1, v2, v3⟩).map (Value.int .i64)) rfl
    (fun j u hu => by
      rw [Addr.add_mid, Nat.zero_add]
      exact hbx0.cell j u (by simpa [Rt.V.ints] using hu)) (by intro y hy; obtain ⟨z, _, rfl⟩ := List.mem_map.1 hy; rfl) (by unfold maxLen; omega)
    (Nat.le_trans (Nat.mul_le_mul (show vs.length + 1 ≤ 1001 by omega) (Nat.le_refl 32)) (by decide)) (Nat.le_trans hgl (below_alloc W _).size)
  have ho : OwnD w5 (g + 1) v' (vs ++ [⟨v0, v1, v2, v3⟩]) := by
    unfold OwnD OwnR
    rw [List.length_append, List.flatMap_append, List.map_append]
    simpa using h2
  obtain ⟨A', cp, e, _⟩ := ho.row
  subst e
  have hk : ∀ k, k < W.heap.size → (∀ ad, X = some ad → ad.block ≠ k) → w5.heap[k]? = W.heap[k]? := fun k hk hA => by
    rw [h3.block k (Nat.lt_of_lt_of_le hk (below_alloc W _).size) (fun e => by
      cases X with
      | none => cases e
      | some ad => exact hA ad rfl (Option.some.inj e).symm)]
    exact heap_alloc_old W _ hk
  have hpl := (OwnR.place h.own).2.2.2
  have hb5 : Below (g + 1) W w5 := ⟨h3.os, h3.tape, h3.output, Nat.le_trans (below_alloc W _).size h3.size, fun k hkb => hk k (by omega) (fun ad e => by have := (hpl ad e).1; omega)⟩
  have hbx : Box w5 g _ _ := h.box.old hb5 (Nat.lt_succ_self g)
  have hgg := h.hg
  refine ⟨_, w5, h1, A', cp, rfl, hbx.cell 0 _ rfl, hbx.fz 0, ⟨?_, h.hg, hbx.set 0 _ _ rfl, ho.blocks fun k hk _ => Go.Deep.blk_setCell_other _ _ _ _ (by show k ≠ g; omega)⟩⟩
  exact (h.bel.trans (hb5.mono (by omega))).setCell (p := ⟨g, 0, none⟩) h.hg _


theorem results_dcell {fn : Func} {p : Tmp} (h : fn.results = #[.cell p 42]) (tmps : Array Value) {W : World} {b : Nat} {cs : Array Value} (hb : Box W b cs 42) (hs : cs.size = 4) (hp : tmps.getD p undef = .pointer (some ⟨b, 0, none⟩)) :
    (results fn tmps).run Try.prog W = .ok (.agg cs) W :=
  results_cell_row h tmps W b _ cs (0, 0) _ hp hb und_dtrip rfl (by rw [hs]; exact size_dtrip)

set_option maxHeartbeats 4000000 in
theorem own_b (A : Option Addr) (n c : Nat) (p q s : Int) (vs : List Rt.V) (w : World) (hn : vs.length = n) (hn2 : n ≤ 1000) (hv : VisAt w A vs) :
    Calls Try.prog 12 #[.agg #[.slice A n c, .int .i64 p, .int .i64 q, .int .i64 s]] w fun e w' => ∃ A' c', e = .returned (.agg #[.slice A' n c', .int .i64 p, .int .i64 q, .int .i64 s]) ∧ Hid (Below w.heap.size w w' ∧ VisAt w' A' vs) := by
  have HB0 : Hid (Below w.heap.size w ((w.alloc (.cells #[.slice A n c, .int .i64 p, .int .i64 q, .int .i64 s] 36)).alloc (.cells #[.slice none 0 0, .int .i64 0, .int .i64 0, .int .i64 0] 42))) := below_more (below_alloc _ _) _
  have HD := Lib.hid (DW.start p q s ((w.alloc (.cells #[.slice A n c, .int .i64 p, .int .i64 q, .int .i64 s] 36)).alloc (.cells #[.slice none 0 0, .int .i64 0, .int .i64 0, .int .i64 0] 42)))
  have HO : Hid (Box ((w.alloc (.cells #[.slice A n c, .int .i64 p, .int .i64 q, .int .i64 s] 36)).alloc (.cells #[.slice none 0 0, .int .i64 0, .int .i64 0, .int .i64 0] 42)) (w.heap.size + 1) #[.slice none 0 0, .int .i64 0, .int .i64 0, .int .i64 0] 42) := by
    rw [size_one w (.cells #[.slice A n c, .int .i64 p, .int .i64 q, .int .i64 s] 36)]
    exact Box.new _ _ _
  have HV := Lib.hid (VisAt.below hv HB0.out)
  have HN := Lib.hid hn
  have HG : Hid (w.heap.size + 1 + 1 = ((w.alloc (.cells #[.slice A n c, .int .i64 p, .int .i64 q, .int .i64 s] 36)).alloc (.cells #[.slice none 0 0, .int .i64 0, .int .i64 0, .int .i64 0] 42)).heap.size) := by unfold Hid; simp
  have HL : Hid (w.heap.size ≤ w.heap.size + 1) := by unfold Hid; omega
  clear hv hn
  go_enter Try.func12, Try.ntmps12
  go_wp2_with fail
  rw [← HG.out] at HD
  generalize hU : (w.alloc (.cells #[.slice A n c, .int .i64 p, .int .i64 q, .int .i64 s] 36)).alloc (.cells #[.slice none 0 0, .int .i64 0, .int .i64 0, .int .i64 0] 42) = U at *
  clear hU
  generalize w.heap.size + 1 + 1 = g at *
  generalize w.heap.size + 1 = rb at *
  generalize U.alloc (.cells #[.slice none 0 0, .int .i64 p, .int .i64 q, .int .i64 s] 42) = W1 at *
  go_loopg [16] n (fun gk s16 W => ∃ (i : Nat) (X : Option Addr) (cx : Nat) (W0 : World), W0 = W ∧ i + gk = n ∧ s16 = .int .i64 (i : Int) ∧ Hid (DW p q s U g X i cx (vs.take i) W0))
  case atStart => exact ⟨0, none, 0, _, rfl, by omega, rfl, HD.out⟩
  case round =>
    obtain ⟨i, X, cx, W0, rfl, hig, rfl, HW⟩ := hrel
    by_cases hlt : i < n
    · obtain ⟨gk, rfl⟩ : ∃ j, gk = j + 1 := ⟨gk - 1, by omega⟩
      obtain ⟨v, hv⟩ := mlist_at vs i (by rw [HN.out]; exact hlt)
      obtain ⟨ad, rfl, c0, c1, c2, c3⟩ := (HV.out.below HW.out.bel).at_ hv
      obtain ⟨v0, v1, v2, v3⟩ := v
      simp only at c0 c1 c2 c3
      have hsn : vs.take i ++ [⟨v0, v1, v2, v3⟩] = vs.take (i + 1) := by rw [List.take_add_one, hv]; rfl
      have hl : (vs.take (i + 1)).length = i + 1 := by rw [List.length_take, HN.out]; omega
      have HWA := Lib.hid (HW.out.below (below_alloc W0 (.cells #[.int .i64 v0, .int .i64 v1, .int .i64 v2, .int .i64 v3] 53)))
      have hA := HWA.out.put v0 v1 v2 v3 _ (i + 1) hsn hl (by rw [List.length_take]; omega)
      rw [show (W0.alloc (.cells #[.int .i64 v0, .int .i64 v1, .int .i64 v2, .int .i64 v3] 53)).heap.size = W0.heap.size + 1 from by simp] at hA
      have HA := Lib.hid hA
      have x0 := HWA.out.box.cell 0 _ rfl
      have i1 : (i : Int) < (n : Int) := by omega
      clear hv hsn hl hA
      go_wp2_with (first
        | (at_builtin; refine wpList_append_n rfl (.tmp 21) (.tmp 23) 40 40 rfl _ _ rfl rfl _ HA.out ?_; intro vv w9 hap; obtain ⟨A', cA', rfl, hp1, hp2, HP⟩ := hap))
      go_roundg gk
      case measure => omega
      case rel => exact ⟨i + 1, A', cA', _, rfl, by omega, by first | rfl | go_num, HP.out⟩
    · have hin : i = n := by omega
      have ht : vs.take i = vs := List.take_of_length_le (by rw [HN.out]; omega)
      have hw := HW.out
      rw [ht] at hw
      have HW2 := Lib.hid hw
      subst hin
      clear hw ht HW
      have x0 := HW2.out.box.cell 0 _ rfl
      have x1 := HW2.out.box.cell 1 _ rfl
      have x2 := HW2.out.box.cell 2 _ rfl
      have x3 := HW2.out.box.cell 3 _ rfl
      have HOB := Lib.hid (HO.out.below HW2.out.bel)
      have z0 := HOB.out.cell 0 _ rfl
      have z1 := HOB.out.cell 1 _ rfl
      have z2 := HOB.out.cell 2 _ rfl
      have z3 := HOB.out.cell 3 _ rfl
      have f0 := HOB.out.fz 0
      have f1 := HOB.out.fz 1
      have f2 := HOB.out.fz 2
      have f3 := HOB.out.fz 3
      go_wp2
      refine bodyPost_ret (results_dcell rfl _ (dtrip_set HOB.out _ _ _ _) rfl rfl) rfl ⟨X, cx, rfl, below_set4 (below_next HB0.out HW2.out.bel) _ HL.out _ _ _ _, ?_⟩
      obtain ⟨o1, o2, o3, o4⟩ := OwnR.place HW2.out.own
      refine IntsAt.blocks o3 fun ad e => but_set4 _ _ _ _ _ _ _ ?_
      have h1 := (o4 ad e).1
      have h2 := HO.out.lt
      have h3 := HW2.out.hg
      omega

set_option maxHeartbeats 4000000 in
theorem same_b (A A2 : Option Addr) (n c c2 : Nat) (p q s : Int) (vs : List Rt.V) (w : World) (hn : vs.length = n) (hn2 : n ≤ 1000) (hv : VisAt w A vs) (hv2 : VisAt w A2 vs) :
    Calls Try.prog 11 #[.agg #[.slice A n c, .int .i64 p, .int .i64 q, .int .i64 s], .agg #[.slice A2 n c2, .int .i64 p, .int .i64 q, .int .i64 s]] w fun e w' => e = .returned (.bool true) ∧ Hid (Below w.heap.size w w') := by
  have HB0 : Hid (Below w.heap.size w ((w.alloc (.cells #[.slice A n c, .int .i64 p, .int .i64 q, .int .i64 s] 42)).alloc (.cells #[.slice A2 n c2, .int .i64 p, .int .i64 q, .int .i64 s] 42))) := below_more (below_alloc _ _) _
  have HX : Hid (Box ((w.alloc (.cells #[.slice A n c, .int .i64 p, .int .i64 q, .int .i64 s] 42)).alloc (.cells #[.slice A2 n c2, .int .i64 p, .int .i64 q, .int .i64 s] 42)) w.heap.size #[.slice A n c, .int .i64 p, .int .i64 q, .int .i64 s] 42) := (Box.new _ _ _).below (below_alloc _ _)
  have HY : Hid (Box ((w.alloc (.cells #[.slice A n c, .int .i64 p, .int .i64 q, .int .i64 s] 42)).alloc (.cells #[.slice A2 n c2, .int .i64 p, .int .i64 q, .int .i64 s] 42)) (w.heap.size + 1) #[.slice A2 n c2, .int .i64 p, .int .i64 q, .int .i64 s] 42) := by
    rw [size_one w (.cells #[.slice A n c, .int .i64 p, .int .i64 q, .int .i64 s] 42)]
    exact Box.new _ _ _
  have HV := Lib.hid (VisAt.below hv HB0.out)
  have HV2 := Lib.hid (VisAt.below hv2 HB0.out)
  have HN := Lib.hid hn
  have e1 : ((n : Int) != (n : Int)) = false := by simp
  have e1' : (n != n) = false := by simp
  have e2 : (p != p) = false := by simp
  have e3 : (q != q) = false := by simp
  have e4 : (s != s) = false := by simp
  clear hv hv2 hn
  go_enter Try.func11, Try.ntmps11
  go_wp2_with fail
  generalize (w.alloc (.cells #[.slice A n c, .int .i64 p, .int .i64 q, .int .i64 s] 42)).alloc (.cells #[.slice A2 n c2, .int .i64 p, .int .i64 q, .int .i64 s] 42) = U at *
  generalize w.heap.size + 1 = yb at *
  generalize hxb : w.heap.size = xb at HX ⊢
  clear hxb
  go_loopg [4, 5] n (fun gk s4 s5 W => ∃ (i qn : Nat) (W0 : World), W0 = W ∧ W0 = U.drewN qn ∧ i + gk = n ∧ s4 = .bool false ∧ s5 = .int .i64 (i : Int))
  case atStart => exact ⟨0, 0, _, rfl, rfl, by omega, rfl, rfl⟩
  case round =>
    obtain ⟨i, qn, W0, rfl, hW0, hig, rfl, rfl⟩ := hrel
    have HBU : Hid (Below U.heap.size U W0) := by unfold Hid; rw [hW0]; exact ⟨rfl, rfl, rfl, Nat.le_refl _, fun _ _ => rfl⟩
    have HQ := Lib.hid hW0
    clear hW0
    have x0 := (HX.out.below HBU.out).cell 0 _ rfl
    have y0 := (HY.out.below HBU.out).cell 0 _ rfl
    by_cases hlt : i < n
    · obtain ⟨gk, rfl⟩ : ∃ j, gk = j + 1 := ⟨gk - 1, by omega⟩
      obtain ⟨v, hv⟩ := mlist_at vs i (by rw [HN.out]; exact hlt)
      obtain ⟨ad, hA, c0, c1, c2', c3⟩ := (HV.out.below HBU.out).at_ hv
      obtain ⟨ae, hA2, d0, d1, d2, d3⟩ := (HV2.out.below HBU.out).at_ hv
      obtain ⟨v0, v1, v2, v3⟩ := v
      simp only at c0 c1 c2' c3 d0 d1 d2 d3
      subst hA hA2
      have i1 : (i : Int) < (n : Int) := by omega
      clear hv
      go_wp2
      go_quiet (fail)
      go_wp2
      go_roundg gk
      case measure => omega
      case rel => exact ⟨i + 1, _, _, rfl, by rw [HQ.out]; exact World.drewN_drewN _ _ _, by omega, rfl, by first | rfl | go_num⟩
    · obtain rfl : i = n := by omega
      go_wp2
      go_ret
      exact ⟨rfl, below_next HB0.out HBU.out⟩
end Go.Proofs.Ytihnkklnkcideaa
