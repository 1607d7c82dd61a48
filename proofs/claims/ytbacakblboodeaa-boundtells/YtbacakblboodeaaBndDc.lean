/- The document's Make. -/
import Derived.Test.YtbacakblboodeaaBndDb
import Derived.Test.YtbacakblboodeaaRouteRW
namespace Go.Proofs.Ytbacakblboodeaa
open Go.RowKit
set_option linter.unusedVariables false
set_option maxRecDepth 100000

structure MBD (V : World) (b1 b2 : Nat) (x : Wd) : Prop where
  w : WX V b1 x
  q : Box V b2 #[.slice none 0 0, .slice none 0 0, .int .i64 0, .int .i64 0, .int .i64 0, .int .i64 0] 37
theorem MBD.below {V V' : World} {b1 b2 : Nat} {x : Wd} (h : MBD V b1 b2 x) (hb : Below V.heap.size V V') : MBD V' b1 b2 x := ⟨h.w.below hb, h.q.below hb⟩

theorem RCS.done {w V W : World} {g b2 : Nat} {iA : Option Addr} {k ic : Nat} {ids : List Int} {nA : Option Addr} {nc : Nat} {inn : List Int} {b r f t v : Int} {res : Bo.C}
    (h : RCS V g iA k ic nA k nc inn b r f t W) (hI : IntsAt V iA ids) (hA : ∀ ad, iA = some ad → b2 < ad.block) (hw : Below w.heap.size w V) (hb2 : w.heap.size ≤ b2) (hbV : b2 < V.heap.size) (hk : k ≤ 900) (hi : ids.length = k) (hn : inn.length = k) (hres : res = ⟨ids, inn, b, r, f, v⟩) :
    MakePost w (res, 0) (.returned (.tuple #[.agg #[.slice iA k ic, .slice nA k nc, .int .i64 b, .int .i64 r, .int .i64 f, .int .i64 v], .int .i64 0])) (((((((W.setCell ⟨g, 5, none⟩ (.int .i64 v)).setCell ⟨b2, 0, none⟩ (.slice iA k ic)).setCell ⟨b2, 1, none⟩ (.slice nA k nc)).setCell ⟨b2, 2, none⟩ (.int .i64 b)).setCell ⟨b2, 3, none⟩ (.int .i64 r)).setCell ⟨b2, 4, none⟩ (.int .i64 f)).setCell ⟨b2, 5, none⟩ (.int .i64 v)) := by
  subst hres
  have h5 := h.set5 v
  have h1 := hI.below h5.bel
  refine ⟨⟨iA, k, ic, ids, nA, k, nc, inn, b, r, f, v⟩, rfl, rfl, below_set6 (below_next hw h5.bel) b2 hb2 _ _ _ _ _ _, ⟨hi, hk, ?_, hn, hk, ?_⟩⟩
  · exact IntsAt.blocks h1 fun ad e => but_set6 (W.setCell ⟨g, 5, none⟩ (.int .i64 v)) b2 (.slice iA k ic) (.slice nA k nc) (.int .i64 b) (.int .i64 r) (.int .i64 f) (.int .i64 v) ad.block (Nat.ne_of_gt (hA ad e))
  · have ho := h5.on
    have hJ : IntsAt (W.setCell ⟨g, 5, none⟩ (.int .i64 v)) nA inn := by
      obtain ⟨A', c', e, _, _, hI⟩ := ho.ints
      injection e with e1 e2 e3
      subst e1
      exact hI
    refine IntsAt.blocks hJ fun ad e => but_set6 (W.setCell ⟨g, 5, none⟩ (.int .i64 v)) b2 (.slice iA k ic) (.slice nA k nc) (.int .i64 b) (.int .i64 r) (.int .i64 f) (.int .i64 v) ad.block ?_
    rcases ho.2 with ⟨e5, _⟩ | ⟨g1, cp, cur, e5, hg1, _⟩
    · injection e5 with e5; rw [e5] at e; cases e
    · injection e5 with e5; rw [e5] at e; obtain rfl := Option.some.inj e
      exact Nat.ne_of_gt (Nat.lt_of_lt_of_le hbV (Nat.le_trans h.hg (Nat.le_of_succ_le hg1)))
theorem boxd {w : World} {b : Nat} {cs : Array Value} {t : TypeId} (h : Box w b cs t) : Box w.drew b cs t := h
set_option maxHeartbeats 20000000 in
theorem dmake_b (x : Wd) (A : Option Addr) (n c : Nat) (ids : List Int) (w : World) (r : Bo.C × Int) (hr : Bo.makeS x.N x.D x.T x.os x.ts ids = r) (hx : WAt w x) (hn : ids.length = n) (hn2 : n ≤ 900) (hi : IntsAt w A ids) :
    Calls Try.prog 10 #[.agg #[.int .i64 x.N, .slice x.dA x.dm x.dc, .slice x.tA x.tm x.tc, .slice x.A x.m x.c, .slice x.B x.k x.d], .slice A n c] w (MakePost w r) := by
  have HX : Hid (MBD ((w.alloc (.cells #[.int .i64 x.N, .slice x.dA x.dm x.dc, .slice x.tA x.tm x.tc, .slice x.A x.m x.c, .slice x.B x.k x.d] 28)).alloc (.cells #[.slice none 0 0, .slice none 0 0, .int .i64 0, .int .i64 0, .int .i64 0, .int .i64 0] 37)) w.heap.size (w.heap.size + 1) x) := ⟨(WX.new hx).below (below_alloc _ _), box_at _ _ _ _ (by simp)⟩
  have HB0 : Hid (Below w.heap.size w ((w.alloc (.cells #[.int .i64 x.N, .slice x.dA x.dm x.dc, .slice x.tA x.tm x.tc, .slice x.A x.m x.c, .slice x.B x.k x.d] 28)).alloc (.cells #[.slice none 0 0, .slice none 0 0, .int .i64 0, .int .i64 0, .int .i64 0, .int .i64 0] 37))) := below_more (below_alloc _ _) _
  have HBS : Hid (w.heap.size + 1 < ((w.alloc (.cells #[.int .i64 x.N, .slice x.dA x.dm x.dc, .slice x.tA x.tm x.tc, .slice x.A x.m x.c, .slice x.B x.k x.d] 28)).alloc (.cells #[.slice none 0 0, .slice none 0 0, .int .i64 0, .int .i64 0, .int .i64 0, .int .i64 0] 37)).heap.size) := by unfold Hid; simp
  have HI := Lib.hid (hi.below HB0.out)
  have HR := Lib.hid hr
  have HN := Lib.hid hn
  clear hx hi hr hn
  obtain ⟨ew, hew⟩ : ∃ e, Rt.worldE x.N x.D x.T x.os x.ts = e := ⟨_, rfl⟩
  have HEW := Lib.hid hew
  have HC := Lib.hid (dworld_b x ((w.alloc (.cells #[.int .i64 x.N, .slice x.dA x.dm x.dc, .slice x.tA x.tm x.tc, .slice x.A x.m x.c, .slice x.B x.k x.d] 28)).alloc (.cells #[.slice none 0 0, .slice none 0 0, .int .i64 0, .int .i64 0, .int .i64 0, .int .i64 0] 37)) ew hew HX.out.w.at_)
  clear hew
  go_enter Try.func10, Try.ntmps10
  have x0 := HX.out.w.c0
  have x1 := HX.out.w.c1
  have x2 := HX.out.w.c2
  have x3 := HX.out.w.c3
  have x4 := HX.out.w.c4
  go_wp2_with fail
  clear x0 x1 x2 x3 x4
  generalize ((w.alloc (.cells #[.int .i64 x.N, .slice x.dA x.dm x.dc, .slice x.tA x.tm x.tc, .slice x.A x.m x.c, .slice x.B x.k x.d] 28)).alloc (.cells #[.slice none 0 0, .slice none 0 0, .int .i64 0, .int .i64 0, .int .i64 0, .int .i64 0] 37)) = V at *
  have HB2 : Hid (w.heap.size ≤ w.heap.size + 1) := Nat.le_succ _
  generalize w.heap.size + 1 = b2 at *
  obtain ⟨b1, hb1⟩ : ∃ b, w.heap.size = b := ⟨_, rfl⟩
  rw [hb1] at HX ⊢
  clear hb1
  with_reducible refine HC.out.mono ?_
  rintro e V1 ⟨rfl, hV1⟩
  have HX1 := Lib.hid (HX.out.below hV1.out)
  have HB1 := Lib.hid (below_next HB0.out hV1.out)
  have HI1 := Lib.hid (HI.out.below hV1.out)
  have HBS1 : Hid (b2 < V1.heap.size) := Nat.lt_of_lt_of_le HBS.out hV1.out.size
  clear HC HX HB0 HI hV1 HBS
  by_cases h0 : ew = 0
  rotate_left
  · have HE : Hid (r = (Bo.none, ew)) := by
      unfold Hid
      rw [← HR.out]
      exact Bo.make_world HEW.out h0
    have d1 : (ew != 0) = true := bne_iff_ne.2 h0
    clear h0
    have z0 := HX1.out.q.cell 0 _ rfl
    have f0 := HX1.out.q.fz 0
    have z1 := HX1.out.q.cell 1 _ rfl
    have f1 := HX1.out.q.fz 1
    have z2 := HX1.out.q.cell 2 _ rfl
    have f2 := HX1.out.q.fz 2
    have z3 := HX1.out.q.cell 3 _ rfl
    have f3 := HX1.out.q.fz 3
    have z4 := HX1.out.q.cell 4 _ rfl
    have f4 := HX1.out.q.fz 4
    have z5 := HX1.out.q.cell 5 _ rfl
    have f5 := HX1.out.q.fz 5
    go_wp2
    exact bodyPost_ret (results_rcert (v := .int .i64 ew) rfl _ (rcert_set HX1.out.q _ _ _ _ _ _) rfl rfl rfl) rfl (MakePost.zero HE.out (below_set6 HB1.out _ HB2.out _ _ _ _ _ _))
  subst h0
  obtain ⟨S, hS⟩ : ∃ S, Pl.srt ids = S := ⟨_, rfl⟩
  have HS := Lib.hid hS
  have HSN : Hid (S.length = n) := by unfold Hid; rw [← hS, Pl.srt_len]; exact HN.out
  have HSO : Hid (Calls Try.prog 30 #[.slice A n c] V1 fun e w' => ∃ A3 c3, e = .returned (.slice A3 n c3) ∧ Hid (Below V1.heap.size V1 w' ∧ IntsAt w' A3 S ∧ ∀ ad, A3 = some ad → V1.heap.size ≤ ad.block)) :=
    (dsorted_b A n c ids V1 HN.out (by omega) HI1.out).mono fun e w' h => by
      obtain ⟨A3, c3, e1, h2, h3⟩ := h
      rw [hS] at e1 h3
      rw [HSN.out] at e1
      exact ⟨A3, c3, e1, h3.out.1, h3.out.2.1, fun ad e => (h3.out.2.2 ad e).1⟩
  clear hS
  go_wp2_with fail
  with_reducible refine HSO.out.mono ?_
  rintro e V ⟨A3, c3, rfl, h2⟩
  have HX2 := Lib.hid (HX1.out.below h2.out.1)
  have HBV := Lib.hid (below_next HB1.out h2.out.1)
  have HIS := Lib.hid h2.out.2.1
  have HNA : Hid (∀ ad, A3 = some ad → b2 < ad.block) := fun ad e => Nat.lt_of_lt_of_le HBS1.out (h2.out.2.2 ad e)
  have HBS2 : Hid (b2 < V.heap.size) := Nat.lt_of_lt_of_le HBS1.out h2.out.1.size
  have HD : Hid (RCS V V.heap.size A3 n c3 none 0 0 [] 0 0 0 0 (V.alloc (.cells #[.slice A3 n c3, .slice none 0 0, .int .i64 0, .int .i64 0, .int .i64 0, .int .i64 0] 37))) := RCS.new V A3 n c3
  clear HSO HX1 HB1 HI1 HBS1 h2
  go_wp2_with fail
  generalize V.alloc (.cells #[.slice A3 n c3, .slice none 0 0, .int .i64 0, .int .i64 0, .int .i64 0, .int .i64 0] 37) = U0 at *
  generalize V.heap.size = g at HD ⊢
  go_loopg [8] (n - 1) (fun gk s8 W => ∃ (k j : Nat) (W0 : World), W0 = W ∧ j + gk = n - 1 ∧ s8 = .int .i64 (k : Int) ∧ Hid (k = j + 1) ∧ Hid (RCS V g A3 n c3 none 0 0 [] 0 0 0 0 W0) ∧ Hid (∀ (i : Nat) (a b : Int), i < j → S[i]? = some a → S[i + 1]? = some b → a ≠ b))
  case atStart => exact ⟨1, 0, _, rfl, by omega, rfl, rfl, HD.out, fun i a b h => absurd h (Nat.not_lt_zero i)⟩
  case round =>
    clear HD
    obtain ⟨k, j, W0, rfl, hjg, rfl, HKJ, HD, HNE⟩ := hrel
    by_cases hlt : k < n
    · obtain ⟨gk, rfl⟩ : ∃ i, gk = i + 1 := ⟨gk - 1, by have := HKJ.out; omega⟩
      have hjn : j < n := by have := HKJ.out; omega
      obtain ⟨y, hy⟩ := mlist_at S k (by rw [HSN.out]; exact hlt)
      obtain ⟨z, hz⟩ := mlist_at S j (by rw [HSN.out]; exact hjn)
      have HY := Lib.hid hy
      have HZ := Lib.hid hz
      obtain ⟨ad, hA, hcy⟩ := (HIS.out.below HD.out.drew.bel).at_i hy
      have hcz : W0.drew.cell? (ad.add j) = some (.int .i64 z) := by
        obtain ⟨ad', hA', hc⟩ := (HIS.out.below HD.out.drew.bel).at_i hz
        obtain rfl := Option.some.inj (hA.symm.trans hA')
        exact hc
      have i1 : (0 : Int) ≤ (k : Int) := by omega
      have i2 : (k : Int) < (n : Int) := by omega
      have i3 : (0 : Int) ≤ (j : Int) := by omega
      have i4 : (j : Int) < (n : Int) := by omega
      have ws : IntKind.i64.wrap ((k : Int) - 1) = (j : Int) := by
        rw [show (k : Int) - 1 = (j : Int) by have := HKJ.out; omega]
        exact IntWalk.i64_in _ (by omega)
      subst hA
      have HIN : Hid (W0.drew.cell? ⟨g, 0, none⟩ = some (.slice (some ad) n c3) ∧ W0.drew.cell? (ad.add k) = some (.int .i64 y) ∧ W0.drew.cell? (ad.add j) = some (.int .i64 z)) := ⟨HD.out.drew.c0, hcy, hcz⟩
      have y0 := HD.out.c0
      clear hy hz hcy hcz hjn
      by_cases he : y = z
      · have d3 : (y == z) = true := beq_iff_eq.2 he
        have HE : Hid (r = (Bo.none, 6)) := by
          unfold Hid
          rw [← HR.out]
          refine Bo.make_twice HEW.out ?_
          rw [HS.out]
          exact Pl.dup_at HZ.out (by rw [← HKJ.out, HY.out, he])
        have HXq := Lib.hid (HX2.out.below HD.out.bel)
        have HBq := Lib.hid (below_next HBV.out HD.out.bel)
        clear he
        go_upto_region 8 with fail
        refine wp_region_held_drew (S := (fun U : World => U.cell? ⟨g, 0, none⟩ = some (.slice (some ad) n c3) ∧ U.cell? (ad.add k) = some (.int .i64 y) ∧ U.cell? (ad.add j) = some (.int .i64 z))) (by kernel_rfl) (by (try dsimp only); exact HIN.out) (fun hHeld => ?_)
        refine wpAnyH_take (i := 0) (v := ?_) (by simp only [List.getElem?_toArray, List.getElem?_cons_zero]; exact rfl) (by kernel_rfl) (by kernel_rfl) (by kernel_rfl) (by exact fun _ _ _ h => h) (Or.inl ⟨by rfl, ?_⟩) (by assumption) ?_
        rotate_left
        · intro w hSw; (try dsimp only at hSw); go_simp <;> with_reducible rfl
        try simp only [Act.put, List.setIfInBounds_toArray, List.set_cons_zero, List.set_cons_succ]
        refine wpAnyH_take (i := 1) (v := ?_) (by simp only [List.getElem?_toArray, List.getElem?_cons_succ, List.getElem?_cons_zero]; exact rfl) (by kernel_rfl) (by kernel_rfl) (by kernel_rfl) (by exact fun _ _ _ h => h) (Or.inl ⟨by rfl, ?_⟩) (by assumption) ?_
        rotate_left
        · intro w hSw; (try dsimp only at hSw); go_simp <;> with_reducible rfl
        try simp only [Act.put, List.setIfInBounds_toArray, List.set_cons_zero, List.set_cons_succ]
        refine wpAnyH_take (i := 2) (v := ?_) (by simp only [List.getElem?_toArray, List.getElem?_cons_succ, List.getElem?_cons_zero]; exact rfl) (by kernel_rfl) (by kernel_rfl) (by kernel_rfl) (by exact fun _ _ _ h => h) (Or.inl ⟨by rfl, ?_⟩) (by assumption) ?_
        rotate_left
        · intro w hSw; (try dsimp only at hSw); go_simp <;> with_reducible rfl
        try simp only [Act.put, List.setIfInBounds_toArray, List.set_cons_zero, List.set_cons_succ]
        refine wpAnyH_take (i := 3) (v := ?_) (by simp only [List.getElem?_toArray, List.getElem?_cons_succ, List.getElem?_cons_zero]; exact rfl) (by kernel_rfl) (by kernel_rfl) (by kernel_rfl) (by exact fun _ _ _ h => h) (Or.inl ⟨by rfl, ?_⟩) (by assumption) ?_
        rotate_left
        · intro w hSw; (try dsimp only at hSw); go_simp <;> with_reducible rfl
        try simp only [Act.put, List.setIfInBounds_toArray, List.set_cons_zero, List.set_cons_succ]
        refine wpAnyH_take (i := 4) (v := ?_) (by simp only [List.getElem?_toArray, List.getElem?_cons_succ, List.getElem?_cons_zero]; exact rfl) (by kernel_rfl) (by kernel_rfl) (by kernel_rfl) (by exact fun _ _ _ h => h) (Or.inl ⟨by rfl, ?_⟩) (by assumption) ?_
        rotate_left
        · intro w hSw; (try dsimp only at hSw); go_simp <;> with_reducible rfl
        try simp only [Act.put, List.setIfInBounds_toArray, List.set_cons_zero, List.set_cons_succ]
        refine wpAnyH_take (i := 5) (v := ?_) (by simp only [List.getElem?_toArray, List.getElem?_cons_succ, List.getElem?_cons_zero]; exact rfl) (by kernel_rfl) (by kernel_rfl) (by kernel_rfl) (by exact fun _ _ _ h => h) (Or.inl ⟨by rfl, ?_⟩) (by assumption) ?_
        rotate_left
        · intro w hSw; (try dsimp only at hSw); go_simp <;> with_reducible rfl
        try simp only [Act.put, List.setIfInBounds_toArray, List.set_cons_zero, List.set_cons_succ]
        refine wpAnyH_take (i := 6) (v := ?_) (by simp only [List.getElem?_toArray, List.getElem?_cons_succ, List.getElem?_cons_zero]; exact rfl) (by kernel_rfl) (by kernel_rfl) (by kernel_rfl) (by exact fun _ _ _ h => h) (Or.inl ⟨by rfl, ?_⟩) (by assumption) ?_
        rotate_left
        · intro w hSw; (try dsimp only at hSw); go_simp <;> with_reducible rfl
        try simp only [Act.put, List.setIfInBounds_toArray, List.set_cons_zero, List.set_cons_succ]
        refine wpAnyH_take (i := 7) (v := ?_) (by simp only [List.getElem?_toArray, List.getElem?_cons_succ, List.getElem?_cons_zero]; exact rfl) (by kernel_rfl) (by kernel_rfl) (by kernel_rfl) (by exact fun _ _ _ h => h) (Or.inl ⟨by rfl, ?_⟩) (by assumption) ?_
        rotate_left
        · intro w hSw; (try dsimp only at hSw); go_simp <;> with_reducible rfl
        try simp only [Act.put, List.setIfInBounds_toArray, List.set_cons_zero, List.set_cons_succ]
        refine wpAnyH_take (i := 8) (v := ?_) (by simp only [List.getElem?_toArray, List.getElem?_cons_succ, List.getElem?_cons_zero]; exact rfl) (by kernel_rfl) (by kernel_rfl) (by kernel_rfl) (by exact fun _ _ _ h => h) (Or.inl ⟨by rfl, ?_⟩) (by assumption) ?_
        rotate_left
        · intro w hSw; (try dsimp only at hSw); go_simp <;> with_reducible rfl
        try simp only [Act.put, List.setIfInBounds_toArray, List.set_cons_zero, List.set_cons_succ]
        refine wpAnyH_take (i := 9) (v := ?_) (by simp only [List.getElem?_toArray, List.getElem?_cons_succ, List.getElem?_cons_zero]; exact rfl) (by kernel_rfl) (by kernel_rfl) (by kernel_rfl) (by exact fun _ _ _ h => h) (Or.inl ⟨by rfl, ?_⟩) (by assumption) ?_
        rotate_left
        · intro w hSw; (try dsimp only at hSw); go_simp <;> with_reducible rfl
        try simp only [Act.put, List.setIfInBounds_toArray, List.set_cons_zero, List.set_cons_succ]
        refine wpAnyH_take (i := 10) (v := ?_) (by simp only [List.getElem?_toArray, List.getElem?_cons_succ, List.getElem?_cons_zero]; exact rfl) (by kernel_rfl) (by kernel_rfl) (by kernel_rfl) (by exact fun _ _ _ h => h) (Or.inl ⟨by rfl, ?_⟩) (by assumption) ?_
        rotate_left
        · intro w hSw; (try dsimp only at hSw); go_simp <;> with_reducible rfl
        try simp only [Act.put, List.setIfInBounds_toArray, List.set_cons_zero, List.set_cons_succ]
        refine wpAnyH_take (i := 11) (v := ?_) (by simp only [List.getElem?_toArray, List.getElem?_cons_succ, List.getElem?_cons_zero]; exact rfl) (by kernel_rfl) (by kernel_rfl) (by kernel_rfl) (by exact fun _ _ _ h => h) (Or.inl ⟨by rfl, ?_⟩) (by assumption) ?_
        rotate_left
        · intro w hSw; (try dsimp only at hSw); go_simp <;> with_reducible rfl
        try simp only [Act.put, List.setIfInBounds_toArray, List.set_cons_zero, List.set_cons_succ]
        refine wpAnyH_done (by kernel_rfl) ?_ _
        rotate_left
        clear hHeld y0
        clear ws
        have z0 := HXq.out.q.cell 0 _ rfl
        have f0 := HXq.out.q.fz 0
        have z1 := HXq.out.q.cell 1 _ rfl
        have f1 := HXq.out.q.fz 1
        have z2 := HXq.out.q.cell 2 _ rfl
        have f2 := HXq.out.q.fz 2
        have z3 := HXq.out.q.cell 3 _ rfl
        have f3 := HXq.out.q.fz 3
        have z4 := HXq.out.q.cell 4 _ rfl
        have f4 := HXq.out.q.fz 4
        have z5 := HXq.out.q.cell 5 _ rfl
        have f5 := HXq.out.q.fz 5
        go_wp2
        exact bodyPost_ret (results_rcert (v := .int .i64 6) rfl _ (boxd (rcert_set HXq.out.q _ _ _ _ _ _)) rfl rfl rfl) rfl (MakePost.zero HE.out (below_set6 HBq.out _ HB2.out _ _ _ _ _ _).drew)
      · have d3 : (y == z) = false := beq_eq_false_iff_ne.2 he
        have HNX : Hid (∀ (i : Nat) (a b : Int), i < j + 1 → S[i]? = some a → S[i + 1]? = some b → a ≠ b) := fun i a b hi ha hb => by
          rcases Nat.lt_or_ge i j with h | h
          · exact HNE.out i a b h ha hb
          · obtain rfl : i = j := by omega
            obtain rfl := Option.some.inj (HZ.out.symm.trans ha)
            rw [← HKJ.out] at hb
            obtain rfl := Option.some.inj (HY.out.symm.trans hb)
            exact fun e => he e.symm
        clear he
        go_upto_region 8 with fail
        refine wp_region_held_drew (S := (fun U : World => U.cell? ⟨g, 0, none⟩ = some (.slice (some ad) n c3) ∧ U.cell? (ad.add k) = some (.int .i64 y) ∧ U.cell? (ad.add j) = some (.int .i64 z))) (by kernel_rfl) (by (try dsimp only); exact HIN.out) (fun hHeld => ?_)
        refine wpAnyH_take (i := 0) (v := ?_) (by simp only [List.getElem?_toArray, List.getElem?_cons_zero]; exact rfl) (by kernel_rfl) (by kernel_rfl) (by kernel_rfl) (by exact fun _ _ _ h => h) (Or.inl ⟨by rfl, ?_⟩) (by assumption) ?_
        rotate_left
        · intro w hSw; (try dsimp only at hSw); go_simp <;> with_reducible rfl
        try simp only [Act.put, List.setIfInBounds_toArray, List.set_cons_zero, List.set_cons_succ]
        refine wpAnyH_take (i := 1) (v := ?_) (by simp only [List.getElem?_toArray, List.getElem?_cons_succ, List.getElem?_cons_zero]; exact rfl) (by kernel_rfl) (by kernel_rfl) (by kernel_rfl) (by exact fun _ _ _ h => h) (Or.inl ⟨by rfl, ?_⟩) (by assumption) ?_
        rotate_left
        · intro w hSw; (try dsimp only at hSw); go_simp <;> with_reducible rfl
        try simp only [Act.put, List.setIfInBounds_toArray, List.set_cons_zero, List.set_cons_succ]
        refine wpAnyH_take (i := 2) (v := ?_) (by simp only [List.getElem?_toArray, List.getElem?_cons_succ, List.getElem?_cons_zero]; exact rfl) (by kernel_rfl) (by kernel_rfl) (by kernel_rfl) (by exact fun _ _ _ h => h) (Or.inl ⟨by rfl, ?_⟩) (by assumption) ?_
        rotate_left
        · intro w hSw; (try dsimp only at hSw); go_simp <;> with_reducible rfl
        try simp only [Act.put, List.setIfInBounds_toArray, List.set_cons_zero, List.set_cons_succ]
        refine wpAnyH_take (i := 3) (v := ?_) (by simp only [List.getElem?_toArray, List.getElem?_cons_succ, List.getElem?_cons_zero]; exact rfl) (by kernel_rfl) (by kernel_rfl) (by kernel_rfl) (by exact fun _ _ _ h => h) (Or.inl ⟨by rfl, ?_⟩) (by assumption) ?_
        rotate_left
        · intro w hSw; (try dsimp only at hSw); go_simp <;> with_reducible rfl
        try simp only [Act.put, List.setIfInBounds_toArray, List.set_cons_zero, List.set_cons_succ]
        refine wpAnyH_take (i := 4) (v := ?_) (by simp only [List.getElem?_toArray, List.getElem?_cons_succ, List.getElem?_cons_zero]; exact rfl) (by kernel_rfl) (by kernel_rfl) (by kernel_rfl) (by exact fun _ _ _ h => h) (Or.inl ⟨by rfl, ?_⟩) (by assumption) ?_
        rotate_left
        · intro w hSw; (try dsimp only at hSw); go_simp <;> with_reducible rfl
        try simp only [Act.put, List.setIfInBounds_toArray, List.set_cons_zero, List.set_cons_succ]
        refine wpAnyH_take (i := 5) (v := ?_) (by simp only [List.getElem?_toArray, List.getElem?_cons_succ, List.getElem?_cons_zero]; exact rfl) (by kernel_rfl) (by kernel_rfl) (by kernel_rfl) (by exact fun _ _ _ h => h) (Or.inl ⟨by rfl, ?_⟩) (by assumption) ?_
        rotate_left
        · intro w hSw; (try dsimp only at hSw); go_simp <;> with_reducible rfl
        try simp only [Act.put, List.setIfInBounds_toArray, List.set_cons_zero, List.set_cons_succ]
        refine wpAnyH_take (i := 6) (v := ?_) (by simp only [List.getElem?_toArray, List.getElem?_cons_succ, List.getElem?_cons_zero]; exact rfl) (by kernel_rfl) (by kernel_rfl) (by kernel_rfl) (by exact fun _ _ _ h => h) (Or.inl ⟨by rfl, ?_⟩) (by assumption) ?_
        rotate_left
        · intro w hSw; (try dsimp only at hSw); go_simp <;> with_reducible rfl
        try simp only [Act.put, List.setIfInBounds_toArray, List.set_cons_zero, List.set_cons_succ]
        refine wpAnyH_take (i := 7) (v := ?_) (by simp only [List.getElem?_toArray, List.getElem?_cons_succ, List.getElem?_cons_zero]; exact rfl) (by kernel_rfl) (by kernel_rfl) (by kernel_rfl) (by exact fun _ _ _ h => h) (Or.inl ⟨by rfl, ?_⟩) (by assumption) ?_
        rotate_left
        · intro w hSw; (try dsimp only at hSw); go_simp <;> with_reducible rfl
        try simp only [Act.put, List.setIfInBounds_toArray, List.set_cons_zero, List.set_cons_succ]
        refine wpAnyH_take (i := 8) (v := ?_) (by simp only [List.getElem?_toArray, List.getElem?_cons_succ, List.getElem?_cons_zero]; exact rfl) (by kernel_rfl) (by kernel_rfl) (by kernel_rfl) (by exact fun _ _ _ h => h) (Or.inl ⟨by rfl, ?_⟩) (by assumption) ?_
        rotate_left
        · intro w hSw; (try dsimp only at hSw); go_simp <;> with_reducible rfl
        try simp only [Act.put, List.setIfInBounds_toArray, List.set_cons_zero, List.set_cons_succ]
        refine wpAnyH_take (i := 9) (v := ?_) (by simp only [List.getElem?_toArray, List.getElem?_cons_succ, List.getElem?_cons_zero]; exact rfl) (by kernel_rfl) (by kernel_rfl) (by kernel_rfl) (by exact fun _ _ _ h => h) (Or.inl ⟨by rfl, ?_⟩) (by assumption) ?_
        rotate_left
        · intro w hSw; (try dsimp only at hSw); go_simp <;> with_reducible rfl
        try simp only [Act.put, List.setIfInBounds_toArray, List.set_cons_zero, List.set_cons_succ]
        refine wpAnyH_take (i := 10) (v := ?_) (by simp only [List.getElem?_toArray, List.getElem?_cons_succ, List.getElem?_cons_zero]; exact rfl) (by kernel_rfl) (by kernel_rfl) (by kernel_rfl) (by exact fun _ _ _ h => h) (Or.inl ⟨by rfl, ?_⟩) (by assumption) ?_
        rotate_left
        · intro w hSw; (try dsimp only at hSw); go_simp <;> with_reducible rfl
        try simp only [Act.put, List.setIfInBounds_toArray, List.set_cons_zero, List.set_cons_succ]
        refine wpAnyH_take (i := 11) (v := ?_) (by simp only [List.getElem?_toArray, List.getElem?_cons_succ, List.getElem?_cons_zero]; exact rfl) (by kernel_rfl) (by kernel_rfl) (by kernel_rfl) (by exact fun _ _ _ h => h) (Or.inl ⟨by rfl, ?_⟩) (by assumption) ?_
        rotate_left
        · intro w hSw; (try dsimp only at hSw); go_simp <;> with_reducible rfl
        try simp only [Act.put, List.setIfInBounds_toArray, List.set_cons_zero, List.set_cons_succ]
        refine wpAnyH_done (by kernel_rfl) ?_ _
        rotate_left
        clear hHeld y0
        clear ws
        go_wp2_with fail
        go_roundg gk
        case measure => omega
        case rel => exact ⟨k + 1, j + 1, _, rfl, by omega, by first | rfl | go_num, by have := HKJ.out; unfold Hid; omega, HD.out.drew, HNX⟩
    · have HDUP : Hid (Pl.dupB S = false) := Pl.dup_none fun i a b ha hb => HNE.out i a b (by have h1 := (List.getElem?_eq_some_iff.1 hb).1; rw [HSN.out] at h1; have := HKJ.out; omega) ha hb
      obtain ⟨bi, hbi⟩ : ∃ z, Rt.allIn x.os S = z := ⟨_, rfl⟩
      have HBI := Lib.hid hbi
      have HC := Lib.hid (dids_b x A3 n c3 S W0 bi ⟨fun h => ⟨by rw [hbi]; exact h, by
        have h1 := Bo.srt_rises (l := ids) (by rw [HS.out]; exact HDUP.out)
        rw [HS.out] at h1
        exact h1⟩, fun h => by rw [← hbi]; exact h.1⟩ (HX2.out.w.at_.below HD.out.bel) HSN.out hn2 (HIS.out.below HD.out.bel))
      have HXW := Lib.hid (HX2.out.w.below HD.out.bel)
      clear hbi hjg HNE HKJ
      have x0 := HXW.out.c0
      have x1 := HXW.out.c1
      have x2 := HXW.out.c2
      have x3 := HXW.out.c3
      have x4 := HXW.out.c4
      have y0 := HD.out.c0
      go_wp2_with fail
      clear x0 x1 x2 x3 x4 y0
      with_reducible refine HC.out.mono ?_
      rintro e W1 ⟨rfl, h3⟩
      have HD1 := Lib.hid (HD.out.below h3.out)
      have HX3 := Lib.hid (HX2.out.below HD1.out.bel)
      have HB3 := Lib.hid (below_next HBV.out HD1.out.bel)
      clear HC HXW h3 HD hlt
      cases bi
      · have HE : Hid (r = (Bo.none, 5)) := by
          unfold Hid
          rw [← HR.out]
          exact Bo.make_name HEW.out (by rw [HS.out]; exact HDUP.out) (by rw [HS.out]; exact HBI.out)
        have z0 := HX3.out.q.cell 0 _ rfl
        have f0 := HX3.out.q.fz 0
        have z1 := HX3.out.q.cell 1 _ rfl
        have f1 := HX3.out.q.fz 1
        have z2 := HX3.out.q.cell 2 _ rfl
        have f2 := HX3.out.q.fz 2
        have z3 := HX3.out.q.cell 3 _ rfl
        have f3 := HX3.out.q.fz 3
        have z4 := HX3.out.q.cell 4 _ rfl
        have f4 := HX3.out.q.fz 4
        have z5 := HX3.out.q.cell 5 _ rfl
        have f5 := HX3.out.q.fz 5
        go_wp2
        exact bodyPost_ret (results_rcert (v := .int .i64 5) rfl _ (rcert_set HX3.out.q _ _ _ _ _ _) rfl rfl rfl) rfl (MakePost.zero HE.out (below_set6 HB3.out _ HB2.out _ _ _ _ _ _))
      · by_cases hn0 : n = 0
        · subst hn0
          have HS0 : Hid (S = []) := List.length_eq_zero_iff.1 HSN.out
          have HE : Hid (r = (Bo.none, 0)) := by
            unfold Hid
            rw [← HR.out]
            obtain rfl : ids = [] := List.length_eq_zero_iff.1 HN.out
            exact Bo.make_nil HEW.out
          have y0 := HD1.out.c0
          have y1 := HD1.out.c1
          have y2 := HD1.out.c2
          have y3 := HD1.out.c3
          have y4 := HD1.out.c4
          have y5 := HD1.out.c5
          have z0 := HX3.out.q.cell 0 _ rfl
          have f0 := HX3.out.q.fz 0
          have z1 := HX3.out.q.cell 1 _ rfl
          have f1 := HX3.out.q.fz 1
          have z2 := HX3.out.q.cell 2 _ rfl
          have f2 := HX3.out.q.fz 2
          have z3 := HX3.out.q.cell 3 _ rfl
          have f3 := HX3.out.q.fz 3
          have z4 := HX3.out.q.cell 4 _ rfl
          have f4 := HX3.out.q.fz 4
          have z5 := HX3.out.q.cell 5 _ rfl
          have f5 := HX3.out.q.fz 5
          go_wp2
          exact bodyPost_ret (results_rcert (v := .int .i64 0) rfl _ (rcert_set HX3.out.q _ _ _ _ _ _) rfl rfl rfl) rfl (by
            rw [HE.out]
            exact ⟨⟨A3, 0, c3, [], none, 0, 0, [], 0, 0, 0, 0⟩, rfl, rfl, below_set6 HB3.out _ HB2.out _ _ _ _ _ _, ⟨rfl, by show 0 ≤ 900; omega, IntsAt.nil _ _, rfl, by show 0 ≤ 900; omega, IntsAt.nil _ _⟩⟩)
        · have d0 : ((n : Int) == 0) = false := beq_eq_false_iff_ne.2 (by omega)
          have hrok := Rt.ok_of HEW.out
          obtain ⟨L, hL⟩ : ∃ L, Rt.ordersOf x.os S = L := ⟨_, rfl⟩
          have HLN : Hid (L.length = n) := by unfold Hid; rw [← hL, Rt.ordersOf_len]; exact HSN.out
          have HLY : Hid (∀ (j : Nat) (y : Int), S[j]? = some y → ∃ p, L[j]? = some p ∧ Rt.ordAt x.os y = p ∧ ¬ Ld.findI (x.os.map Ld.O.id) y = -1) := fun j y hy => by
            refine ⟨_, ?_, rfl, Rt.allIn_at HBI.out hy⟩
            rw [← hL]
            exact Bo.ords_at hy
          have HNO : Hid (∀ o ∈ L, Ar.hasB x.N o.node = true) := fun o ho => Rt.OOk.has (hrok.oo o (Bo.ords_mem HBI.out (by rw [hL]; exact ho)).1)
          have h12 : n ≤ 12 := by
            have h1 := Bo.nodup_len (os := x.os) (ids := ids) (by rw [HS.out]; exact HDUP.out) (by rw [HS.out]; exact HBI.out)
            rw [HN.out] at h1
            exact Nat.le_trans h1 hrok.ol
          have HE : Hid (r = (Bo.certOf x.N x.D L x.ts, 0)) := by
            unfold Hid
            rw [← HR.out, ← hL, ← HS.out]
            exact Bo.make_ok HEW.out (by rw [HS.out]; exact HDUP.out) (by rw [HS.out]; exact HBI.out) fun e => hn0 (by rw [← HN.out, e]; rfl)
          have HIDS : Hid (L.map Ld.O.id = S) := by unfold Hid; rw [← hL]; exact Bo.ids_of HBI.out
          have HAR := Lib.hid (Rt.ok_area HEW.out)
          have H00 := Lib.hid hrok.ar.has0
          have HRB := Lib.hid (Bo.rate_bd hrok.tt)
          have HFB := Lib.hid (Bo.fixed_bd hrok.tt)
          have HBB := Lib.hid (Bo.back_bd hrok.ar HNO.out)
          have HNB : Hid (∀ z ∈ Bo.nears x.N x.D L, 0 ≤ z ∧ z ≤ 1000000) := fun z hz => by
            obtain ⟨k, hk⟩ := List.getElem?_of_mem hz
            have hl := (List.getElem?_eq_some_iff.1 hk).1
            rw [Bo.nears_len] at hl
            rw [Bo.nears_at hl] at hk
            obtain rfl := Option.some.inj hk
            exact Bo.near_bd hrok.ar HNO.out (List.getElem?_eq_getElem hl)
          have HNN : Hid ((Bo.nears x.N x.D L).length = n) := by unfold Hid; rw [Bo.nears_len]; exact HLN.out
          have HLG : Hid (∀ (U : World) (f t d dt : Int), WAt U x → Ar.hasB x.N f = true → Ar.hasB x.N t = true → Ar.at2 x.N x.D f t = d ∧ Ar.at2 x.N x.T f t = dt → Calls Try.prog 33 #[.agg #[.int .i64 x.N, .slice x.dA x.dm x.dc, .slice x.tA x.tm x.tc], .int .i64 f, .int .i64 t] U fun e w' => e = .returned (.tuple #[.int .i64 d, .int .i64 dt, .int .i64 0]) ∧ Hid (Below U.heap.size U w')) := fun U f t d dt hU hf ht hd => by
            have h := rleg_any x.N x.dA x.dm x.dc x.D x.tA x.tm x.tc x.T f t U hU.ar
            rw [leg_is HAR.out hf ht, hd.1, hd.2] at h
            exact h.mono fun e w' ⟨e1, h2⟩ => ⟨e1, h2⟩
          clear hrok hL
          go_wp2_with fail
          go_loopg [9, 10] n (fun gk s9 s10 W => ∃ (k : Nat) (W0 : World) (nA : Option Addr) (nc : Nat) (bk al : Int), W0 = W ∧ k + gk = n ∧ s9 = .int .i64 al ∧ s10 = .int .i64 (k : Int) ∧ Hid (al = ((Bo.nears x.N x.D L).take k).sum) ∧ Hid (bk = Bo.lst ((L.map fun o => Ar.at2 x.N x.D o.node 0).take k)) ∧ Hid (RCS V g A3 n c3 nA k nc ((Bo.nears x.N x.D L).take k) bk 0 0 0 W0))
          case atStart => exact ⟨0, _, none, 0, 0, 0, rfl, by omega, rfl, rfl, rfl, rfl, HD1.out⟩
          case round =>
            clear HD1 HX3 HB3
            obtain ⟨k, W0, nA, nc, bk, al, rfl, hkg, rfl, rfl, HAL, HBK, HD⟩ := hrel
            by_cases hlt : k < n
            · obtain ⟨go, rfl⟩ : ∃ i, gk = i + 1 := ⟨gk - 1, by omega⟩
              obtain ⟨y, hy⟩ := mlist_at S k (by rw [HSN.out]; exact hlt)
              have HY := Lib.hid hy
              obtain ⟨o, ho, hoy, hof⟩ := HLY.out k y hy
              have HO := Lib.hid ho
              obtain ⟨nn, hnn⟩ : ∃ z, o.node = z := ⟨_, rfl⟩
              have HNN2 := Lib.hid hnn
              have HN1 : Hid (¬ Ld.findI (x.os.map Ld.O.id) y = -1 ∧ (Rt.ordAt x.os y).node = nn) := ⟨hof, by rw [hoy]; exact hnn⟩
              have HTO : Hid (Ar.hasB x.N nn = true) := by unfold Hid; rw [← hnn]; exact HNO.out o (List.mem_of_getElem? ho)
              obtain ⟨ad, hA, _⟩ := HIS.out.at_i hy
              have i1 : (0 : Int) ≤ (k : Int) := by omega
              have i2 : (k : Int) < (n : Int) := by omega
              clear hy ho hoy hof hnn
              subst hA
              have HIN : Hid (∀ U, RCS V g (some ad) n c3 nA k nc ((Bo.nears x.N x.D L).take k) bk 0 0 0 U → U.cell? ⟨b1, 0, none⟩ = some (.int .i64 x.N) ∧ U.cell? ⟨b1, 1, none⟩ = some (.slice x.dA x.dm x.dc) ∧ U.cell? ⟨b1, 2, none⟩ = some (.slice x.tA x.tm x.tc) ∧ U.cell? ⟨b1, 3, none⟩ = some (.slice x.A x.m x.c) ∧ U.cell? ⟨b1, 4, none⟩ = some (.slice x.B x.k x.d) ∧ U.cell? ⟨g, 0, none⟩ = some (.slice (some ad) n c3) ∧ U.cell? (ad.add k) = some (.int .i64 y)) := fun U hU => by
                have hw := HX2.out.w.below hU.bel
                obtain ⟨ad', hA', hc⟩ := (HIS.out.below hU.bel).at_i HY.out
                obtain rfl := Option.some.inj hA'
                exact ⟨hw.c0, hw.c1, hw.c2, hw.c3, hw.c4, hU.c0, hc⟩
              have HND : Hid (∀ U, RCS V g (some ad) n c3 nA k nc ((Bo.nears x.N x.D L).take k) bk 0 0 0 U → Calls Try.prog 32 #[.agg #[.int .i64 x.N, .slice x.dA x.dm x.dc, .slice x.tA x.tm x.tc, .slice x.A x.m x.c, .slice x.B x.k x.d], .int .i64 y] U fun e w' => e = .returned (.int .i64 nn) ∧ Hid (Below U.heap.size U w')) := fun U hU => dnode_b x y nn U HN1.out.1 HN1.out.2 (HX2.out.w.below hU.bel).at_
              have y0 := HD.out.c0
              go_upto_region 18 with fail
              clear y0
              refine wp_region_held_drew (S := (fun U : World => U.cell? ⟨b1, 0, none⟩ = some (.int .i64 x.N) ∧ U.cell? ⟨b1, 1, none⟩ = some (.slice x.dA x.dm x.dc) ∧ U.cell? ⟨b1, 2, none⟩ = some (.slice x.tA x.tm x.tc) ∧ U.cell? ⟨b1, 3, none⟩ = some (.slice x.A x.m x.c) ∧ U.cell? ⟨b1, 4, none⟩ = some (.slice x.B x.k x.d) ∧ U.cell? ⟨g, 0, none⟩ = some (.slice (some ad) n c3) ∧ U.cell? (ad.add k) = some (.int .i64 y))) (by kernel_rfl) (by (try dsimp only); exact HIN.out _ HD.out.drew) (fun hHeld => ?_)
              refine wpAnyH_take (i := 0) (v := ?_) (by simp only [List.getElem?_toArray, List.getElem?_cons_zero]; exact rfl) (by kernel_rfl) (by kernel_rfl) (by kernel_rfl) (by exact fun _ _ _ h => h) (Or.inl ⟨by rfl, ?_⟩) (by assumption) ?_
              rotate_left
              · intro w hSw; (try dsimp only at hSw); go_simp <;> with_reducible rfl
              try simp only [Act.put, List.setIfInBounds_toArray, List.set_cons_zero, List.set_cons_succ]
              refine wpAnyH_take (i := 1) (v := ?_) (by simp only [List.getElem?_toArray, List.getElem?_cons_succ, List.getElem?_cons_zero]; exact rfl) (by kernel_rfl) (by kernel_rfl) (by kernel_rfl) (by exact fun _ _ _ h => h) (Or.inl ⟨by rfl, ?_⟩) (by assumption) ?_
              rotate_left
              · intro w hSw; (try dsimp only at hSw); go_simp <;> with_reducible rfl
              try simp only [Act.put, List.setIfInBounds_toArray, List.set_cons_zero, List.set_cons_succ]
              refine wpAnyH_take (i := 2) (v := ?_) (by simp only [List.getElem?_toArray, List.getElem?_cons_succ, List.getElem?_cons_zero]; exact rfl) (by kernel_rfl) (by kernel_rfl) (by kernel_rfl) (by exact fun _ _ _ h => h) (Or.inl ⟨by rfl, ?_⟩) (by assumption) ?_
              rotate_left
              · intro w hSw; (try dsimp only at hSw); go_simp <;> with_reducible rfl
              try simp only [Act.put, List.setIfInBounds_toArray, List.set_cons_zero, List.set_cons_succ]
              refine wpAnyH_take (i := 3) (v := ?_) (by simp only [List.getElem?_toArray, List.getElem?_cons_succ, List.getElem?_cons_zero]; exact rfl) (by kernel_rfl) (by kernel_rfl) (by kernel_rfl) (by exact fun _ _ _ h => h) (Or.inl ⟨by rfl, ?_⟩) (by assumption) ?_
              rotate_left
              · intro w hSw; (try dsimp only at hSw); go_simp <;> with_reducible rfl
              try simp only [Act.put, List.setIfInBounds_toArray, List.set_cons_zero, List.set_cons_succ]
              refine wpAnyH_take (i := 4) (v := ?_) (by simp only [List.getElem?_toArray, List.getElem?_cons_succ, List.getElem?_cons_zero]; exact rfl) (by kernel_rfl) (by kernel_rfl) (by kernel_rfl) (by exact fun _ _ _ h => h) (Or.inl ⟨by rfl, ?_⟩) (by assumption) ?_
              rotate_left
              · intro w hSw; (try dsimp only at hSw); go_simp <;> with_reducible rfl
              try simp only [Act.put, List.setIfInBounds_toArray, List.set_cons_zero, List.set_cons_succ]
              refine wpAnyH_take (i := 5) (v := ?_) (by simp only [List.getElem?_toArray, List.getElem?_cons_succ, List.getElem?_cons_zero]; exact rfl) (by kernel_rfl) (by kernel_rfl) (by kernel_rfl) (by exact fun _ _ _ h => h) (Or.inl ⟨by rfl, ?_⟩) (by assumption) ?_
              rotate_left
              · intro w hSw; (try dsimp only at hSw); go_simp <;> with_reducible rfl
              try simp only [Act.put, List.setIfInBounds_toArray, List.set_cons_zero, List.set_cons_succ]
              refine wpAnyH_ready (rs := [6]) (by kernel_rfl) (by simp) ?_
              refine AllReadyH.cons (by simp only [List.getElem?_toArray, List.getElem?_cons_succ, List.getElem?_cons_zero]; exact rfl) (fun K hK => ?_) AllReadyH.nil
              go_simp
              go_at_call 32
              with_reducible refine (HND.out _ HD.out.drew).mono ?_
              rintro e w5 ⟨rfl, k5⟩
              go_wp2_with fail
              have HD5 := Lib.hid (HD.out.drew.below k5.out)
              clear hHeld
              refine hK.out _ _ ?_ (fun hHeld => ?_)
              · (try dsimp only); exact HIN.out _ HD5.out
              clear hK K
              try simp only [Act.put, List.setIfInBounds_toArray, List.set_cons_zero, List.set_cons_succ]
              refine wpAnyH_take (i := 7) (v := ?_) (by simp only [List.getElem?_toArray, List.getElem?_cons_succ, List.getElem?_cons_zero]; exact rfl) (by kernel_rfl) (by kernel_rfl) (by kernel_rfl) (by exact fun _ _ _ h => h) (Or.inl ⟨by rfl, ?_⟩) (by assumption) ?_
              rotate_left
              · intro w hSw; (try dsimp only at hSw); go_simp <;> with_reducible rfl
              try simp only [Act.put, List.setIfInBounds_toArray, List.set_cons_zero, List.set_cons_succ]
              refine wpAnyH_done (by kernel_rfl) ?_ _
              rotate_left
              clear hHeld k5
              obtain ⟨z0, hz0⟩ : ∃ z, Ar.at2 x.N x.D 0 nn = z := ⟨_, rfl⟩
              obtain ⟨t0, ht0⟩ : ∃ z, Ar.at2 x.N x.T 0 nn = z := ⟨_, rfl⟩
              have HZ0 := Lib.hid (And.intro hz0 ht0)
              clear hz0 ht0
              have HL1 : Hid (∀ U, RCS V g (some ad) n c3 nA k nc ((Bo.nears x.N x.D L).take k) bk 0 0 0 U → Calls Try.prog 33 #[.agg #[.int .i64 x.N, .slice x.dA x.dm x.dc, .slice x.tA x.tm x.tc], .int .i64 0, .int .i64 nn] U fun e w' => e = .returned (.tuple #[.int .i64 z0, .int .i64 t0, .int .i64 0]) ∧ Hid (Below U.heap.size U w')) := fun U hU => HLG.out U 0 nn z0 t0 (HX2.out.w.below hU.bel).at_ H00.out HTO.out HZ0.out
              have x0 := (HX2.out.w.below HD5.out.bel).c0
              have x1 := (HX2.out.w.below HD5.out.bel).c1
              have x2 := (HX2.out.w.below HD5.out.bel).c2
              go_wp2_with fail
              clear x0 x1 x2
              with_reducible refine (HL1.out _ HD5.out).mono ?_
              rintro e w6 ⟨rfl, k6⟩
              have HD6' := Lib.hid (HD5.out.below k6.out)
              clear k6 HD5 HL1 HIN HND
              go_wp2_with fail
              go_loopg [12, 15] n (fun gi s12 s15 W => ∃ (j : Nat) (W1 : World) (z : Int), W1 = W ∧ j + gi = n ∧ s12 = .int .i64 z ∧ s15 = .int .i64 (j : Int) ∧ Hid (z = Bo.lst ((Bo.frs (L.take j) k).map fun f => Ar.at2 x.N x.D f nn)) ∧ Hid (RCS V g (some ad) n c3 nA k nc ((Bo.nears x.N x.D L).take k) bk 0 0 0 W1))
              case atStart => exact ⟨0, _, z0, rfl, by omega, rfl, rfl, (by have h1 : Bo.frs (L.take 0) k = [0] := (by unfold Bo.frs; simp); unfold Hid; rw [h1, ← HZ0.out.1]; rfl), HD6'.out⟩
              case round =>
                clear HD6' HD HZ0
                obtain ⟨j, W1, z, rfl, hjg, rfl, rfl, HZ, HD6⟩ := hrel
                by_cases hlj : j < n
                · obtain ⟨gi, rfl⟩ : ∃ i, gk = i + 1 := ⟨gk - 1, by omega⟩
                  obtain ⟨yj, hyj⟩ := mlist_at S j (by rw [HSN.out]; exact hlj)
                  have HYj := Lib.hid hyj
                  obtain ⟨p, hp, hpy, hpf⟩ := HLY.out j yj hyj
                  have HP := Lib.hid hp
                  obtain ⟨pn, hpn⟩ : ∃ z, p.node = z := ⟨_, rfl⟩
                  have HPN := Lib.hid hpn
                  have HN2 : Hid (¬ Ld.findI (x.os.map Ld.O.id) yj = -1 ∧ (Rt.ordAt x.os yj).node = pn) := ⟨hpf, by rw [hpy]; exact hpn⟩
                  have HFR : Hid (Ar.hasB x.N pn = true) := by unfold Hid; rw [← hpn]; exact HNO.out p (List.mem_of_getElem? hp)
                  obtain ⟨d, hd⟩ : ∃ z, Ar.at2 x.N x.D pn nn = z := ⟨_, rfl⟩
                  obtain ⟨dt, hdt⟩ : ∃ z, Ar.at2 x.N x.T pn nn = z := ⟨_, rfl⟩
                  have HZD := Lib.hid (And.intro hd hdt)
                  have j1 : (0 : Int) ≤ (j : Int) := by omega
                  have j2 : (j : Int) < (n : Int) := by omega
                  clear hyj hp hpy hpf hpn hd hdt
                  have HINj : Hid (∀ U, RCS V g (some ad) n c3 nA k nc ((Bo.nears x.N x.D L).take k) bk 0 0 0 U → U.cell? ⟨b1, 0, none⟩ = some (.int .i64 x.N) ∧ U.cell? ⟨b1, 1, none⟩ = some (.slice x.dA x.dm x.dc) ∧ U.cell? ⟨b1, 2, none⟩ = some (.slice x.tA x.tm x.tc) ∧ U.cell? ⟨b1, 3, none⟩ = some (.slice x.A x.m x.c) ∧ U.cell? ⟨b1, 4, none⟩ = some (.slice x.B x.k x.d) ∧ U.cell? ⟨g, 0, none⟩ = some (.slice (some ad) n c3) ∧ U.cell? (ad.add j) = some (.int .i64 yj)) := fun U hU => by
                    have hw := HX2.out.w.below hU.bel
                    obtain ⟨ad', hA', hc⟩ := (HIS.out.below hU.bel).at_i HYj.out
                    obtain rfl := Option.some.inj hA'
                    exact ⟨hw.c0, hw.c1, hw.c2, hw.c3, hw.c4, hU.c0, hc⟩
                  have HNDj : Hid (∀ U, RCS V g (some ad) n c3 nA k nc ((Bo.nears x.N x.D L).take k) bk 0 0 0 U → Calls Try.prog 32 #[.agg #[.int .i64 x.N, .slice x.dA x.dm x.dc, .slice x.tA x.tm x.tc, .slice x.A x.m x.c, .slice x.B x.k x.d], .int .i64 yj] U fun e w' => e = .returned (.int .i64 pn) ∧ Hid (Below U.heap.size U w')) := fun U hU => dnode_b x yj pn U HN2.out.1 HN2.out.2 (HX2.out.w.below hU.bel).at_
                  have HLGj : Hid (∀ U, RCS V g (some ad) n c3 nA k nc ((Bo.nears x.N x.D L).take k) bk 0 0 0 U → Calls Try.prog 33 #[.agg #[.int .i64 x.N, .slice x.dA x.dm x.dc, .slice x.tA x.tm x.tc], .int .i64 pn, .int .i64 nn] U fun e w' => e = .returned (.tuple #[.int .i64 d, .int .i64 dt, .int .i64 0]) ∧ Hid (Below U.heap.size U w')) := fun U hU => HLG.out U pn nn d dt (HX2.out.w.below hU.bel).at_ HFR.out HTO.out HZD.out
                  have y0 := HD6.out.c0
                  go_upto_region 23 with fail
                  clear y0
                  refine wp_region_held_drew (S := (fun U : World => U.cell? ⟨b1, 0, none⟩ = some (.int .i64 x.N) ∧ U.cell? ⟨b1, 1, none⟩ = some (.slice x.dA x.dm x.dc) ∧ U.cell? ⟨b1, 2, none⟩ = some (.slice x.tA x.tm x.tc) ∧ U.cell? ⟨b1, 3, none⟩ = some (.slice x.A x.m x.c) ∧ U.cell? ⟨b1, 4, none⟩ = some (.slice x.B x.k x.d) ∧ U.cell? ⟨g, 0, none⟩ = some (.slice (some ad) n c3) ∧ U.cell? (ad.add j) = some (.int .i64 yj))) (by kernel_rfl) (by (try dsimp only); exact HINj.out _ HD6.out.drew) (fun hHeld => ?_)
                  refine wpAnyH_take (i := 0) (v := ?_) (by simp only [List.getElem?_toArray, List.getElem?_cons_zero]; exact rfl) (by kernel_rfl) (by kernel_rfl) (by kernel_rfl) (by exact fun _ _ _ h => h) (Or.inl ⟨by rfl, ?_⟩) (by assumption) ?_
                  rotate_left
                  · intro w hSw; (try dsimp only at hSw); go_simp <;> with_reducible rfl
                  try simp only [Act.put, List.setIfInBounds_toArray, List.set_cons_zero, List.set_cons_succ]
                  refine wpAnyH_take (i := 1) (v := ?_) (by simp only [List.getElem?_toArray, List.getElem?_cons_succ, List.getElem?_cons_zero]; exact rfl) (by kernel_rfl) (by kernel_rfl) (by kernel_rfl) (by exact fun _ _ _ h => h) (Or.inl ⟨by rfl, ?_⟩) (by assumption) ?_
                  rotate_left
                  · intro w hSw; (try dsimp only at hSw); go_simp <;> with_reducible rfl
                  try simp only [Act.put, List.setIfInBounds_toArray, List.set_cons_zero, List.set_cons_succ]
                  refine wpAnyH_take (i := 2) (v := ?_) (by simp only [List.getElem?_toArray, List.getElem?_cons_succ, List.getElem?_cons_zero]; exact rfl) (by kernel_rfl) (by kernel_rfl) (by kernel_rfl) (by exact fun _ _ _ h => h) (Or.inl ⟨by rfl, ?_⟩) (by assumption) ?_
                  rotate_left
                  · intro w hSw; (try dsimp only at hSw); go_simp <;> with_reducible rfl
                  try simp only [Act.put, List.setIfInBounds_toArray, List.set_cons_zero, List.set_cons_succ]
                  refine wpAnyH_take (i := 3) (v := ?_) (by simp only [List.getElem?_toArray, List.getElem?_cons_succ, List.getElem?_cons_zero]; exact rfl) (by kernel_rfl) (by kernel_rfl) (by kernel_rfl) (by exact fun _ _ _ h => h) (Or.inl ⟨by rfl, ?_⟩) (by assumption) ?_
                  rotate_left
                  · intro w hSw; (try dsimp only at hSw); go_simp <;> with_reducible rfl
                  try simp only [Act.put, List.setIfInBounds_toArray, List.set_cons_zero, List.set_cons_succ]
                  refine wpAnyH_take (i := 4) (v := ?_) (by simp only [List.getElem?_toArray, List.getElem?_cons_succ, List.getElem?_cons_zero]; exact rfl) (by kernel_rfl) (by kernel_rfl) (by kernel_rfl) (by exact fun _ _ _ h => h) (Or.inl ⟨by rfl, ?_⟩) (by assumption) ?_
                  rotate_left
                  · intro w hSw; (try dsimp only at hSw); go_simp <;> with_reducible rfl
                  try simp only [Act.put, List.setIfInBounds_toArray, List.set_cons_zero, List.set_cons_succ]
                  refine wpAnyH_take (i := 5) (v := ?_) (by simp only [List.getElem?_toArray, List.getElem?_cons_succ, List.getElem?_cons_zero]; exact rfl) (by kernel_rfl) (by kernel_rfl) (by kernel_rfl) (by exact fun _ _ _ h => h) (Or.inl ⟨by rfl, ?_⟩) (by assumption) ?_
                  rotate_left
                  · intro w hSw; (try dsimp only at hSw); go_simp <;> with_reducible rfl
                  try simp only [Act.put, List.setIfInBounds_toArray, List.set_cons_zero, List.set_cons_succ]
                  refine wpAnyH_take (i := 6) (v := ?_) (by simp only [List.getElem?_toArray, List.getElem?_cons_succ, List.getElem?_cons_zero]; exact rfl) (by kernel_rfl) (by kernel_rfl) (by kernel_rfl) (by exact fun _ _ _ h => h) (Or.inl ⟨by rfl, ?_⟩) (by assumption) ?_
                  rotate_left
                  · intro w hSw; (try dsimp only at hSw); go_simp <;> with_reducible rfl
                  try simp only [Act.put, List.setIfInBounds_toArray, List.set_cons_zero, List.set_cons_succ]
                  refine wpAnyH_take (i := 7) (v := ?_) (by simp only [List.getElem?_toArray, List.getElem?_cons_succ, List.getElem?_cons_zero]; exact rfl) (by kernel_rfl) (by kernel_rfl) (by kernel_rfl) (by exact fun _ _ _ h => h) (Or.inl ⟨by rfl, ?_⟩) (by assumption) ?_
                  rotate_left
                  · intro w hSw; (try dsimp only at hSw); go_simp <;> with_reducible rfl
                  try simp only [Act.put, List.setIfInBounds_toArray, List.set_cons_zero, List.set_cons_succ]
                  refine wpAnyH_take (i := 9) (v := ?_) (by simp only [List.getElem?_toArray, List.getElem?_cons_succ, List.getElem?_cons_zero]; exact rfl) (by kernel_rfl) (by kernel_rfl) (by kernel_rfl) (by exact fun _ _ _ h => h) (Or.inl ⟨by rfl, ?_⟩) (by assumption) ?_
                  rotate_left
                  · intro w hSw; (try dsimp only at hSw); go_simp <;> with_reducible rfl
                  try simp only [Act.put, List.setIfInBounds_toArray, List.set_cons_zero, List.set_cons_succ]
                  refine wpAnyH_ready (rs := [8]) (by kernel_rfl) (by simp) ?_
                  refine AllReadyH.cons (by simp only [List.getElem?_toArray, List.getElem?_cons_succ, List.getElem?_cons_zero]; exact rfl) (fun K hK => ?_) AllReadyH.nil
                  go_simp
                  go_at_call 32
                  with_reducible refine (HNDj.out _ HD6.out.drew).mono ?_
                  rintro e w7 ⟨rfl, k5⟩
                  go_wp2_with fail
                  have HD7 := Lib.hid (HD6.out.drew.below k5.out)
                  clear hHeld
                  refine hK.out _ _ ?_ (fun hHeld => ?_)
                  · (try dsimp only); exact HINj.out _ HD7.out
                  clear hK K
                  try simp only [Act.put, List.setIfInBounds_toArray, List.set_cons_zero, List.set_cons_succ]
                  refine wpAnyH_ready (rs := [10]) (by kernel_rfl) (by simp) ?_
                  refine AllReadyH.cons (by simp only [List.getElem?_toArray, List.getElem?_cons_succ, List.getElem?_cons_zero]; exact rfl) (fun K hK => ?_) AllReadyH.nil
                  go_simp
                  go_at_call 33
                  with_reducible refine (HLGj.out _ HD7.out).mono ?_
                  rintro e w8 ⟨rfl, k6⟩
                  go_wp2_with fail
                  have HD8 := Lib.hid (HD7.out.below k6.out)
                  clear hHeld
                  refine hK.out _ _ ?_ (fun hHeld => ?_)
                  · (try dsimp only); exact HINj.out _ HD8.out
                  clear hK K
                  try simp only [Act.put, List.setIfInBounds_toArray, List.set_cons_zero, List.set_cons_succ]
                  refine wpAnyH_take (i := 11) (v := ?_) (by simp only [List.getElem?_toArray, List.getElem?_cons_succ, List.getElem?_cons_zero]; exact rfl) (by kernel_rfl) (by kernel_rfl) (by kernel_rfl) (by exact fun _ _ _ h => h) (Or.inl ⟨by rfl, ?_⟩) (by assumption) ?_
                  rotate_left
                  · intro w hSw; (try dsimp only at hSw); go_simp <;> with_reducible rfl
                  try simp only [Act.put, List.setIfInBounds_toArray, List.set_cons_zero, List.set_cons_succ]
                  refine wpAnyH_take (i := 12) (v := ?_) (by simp only [List.getElem?_toArray, List.getElem?_cons_succ, List.getElem?_cons_zero]; exact rfl) (by kernel_rfl) (by kernel_rfl) (by kernel_rfl) (by exact fun _ _ _ h => h) (Or.inl ⟨by rfl, ?_⟩) (by assumption) ?_
                  rotate_left
                  · intro w hSw; (try dsimp only at hSw); go_simp <;> with_reducible rfl
                  try simp only [Act.put, List.setIfInBounds_toArray, List.set_cons_zero, List.set_cons_succ]
                  refine wpAnyH_take (i := 13) (v := ?_) (by simp only [List.getElem?_toArray, List.getElem?_cons_succ, List.getElem?_cons_zero]; exact rfl) (by kernel_rfl) (by kernel_rfl) (by kernel_rfl) (by exact fun _ _ _ h => h) (Or.inl ⟨by rfl, ?_⟩) (by assumption) ?_
                  rotate_left
                  · intro w hSw; (try dsimp only at hSw); go_simp <;> with_reducible rfl
                  try simp only [Act.put, List.setIfInBounds_toArray, List.set_cons_zero, List.set_cons_succ]
                  refine wpAnyH_take (i := 14) (v := ?_) (by simp only [List.getElem?_toArray, List.getElem?_cons_succ, List.getElem?_cons_zero]; exact rfl) (by kernel_rfl) (by kernel_rfl) (by kernel_rfl) (by exact fun _ _ _ h => h) (Or.inl ⟨by rfl, ?_⟩) (by assumption) ?_
                  rotate_left
                  · intro w hSw; (try dsimp only at hSw); go_simp <;> with_reducible rfl
                  try simp only [Act.put, List.setIfInBounds_toArray, List.set_cons_zero, List.set_cons_succ]
                  refine wpAnyH_take (i := 15) (v := ?_) (by simp only [List.getElem?_toArray, List.getElem?_cons_succ, List.getElem?_cons_zero]; exact rfl) (by kernel_rfl) (by kernel_rfl) (by kernel_rfl) (by exact fun _ _ _ h => h) (Or.inl ⟨by rfl, ?_⟩) (by assumption) ?_
                  rotate_left
                  · intro w hSw; (try dsimp only at hSw); go_simp <;> with_reducible rfl
                  try simp only [Act.put, List.setIfInBounds_toArray, List.set_cons_zero, List.set_cons_succ]
                  refine wpAnyH_take (i := 16) (v := ?_) (by simp only [List.getElem?_toArray, List.getElem?_cons_succ, List.getElem?_cons_zero]; exact rfl) (by kernel_rfl) (by kernel_rfl) (by kernel_rfl) (by exact fun _ _ _ h => h) (Or.inl ⟨by rfl, ?_⟩) (by assumption) ?_
                  rotate_left
                  · intro w hSw; (try dsimp only at hSw); go_simp <;> with_reducible rfl
                  try simp only [Act.put, List.setIfInBounds_toArray, List.set_cons_zero, List.set_cons_succ]
                  refine wpAnyH_take (i := 17) (v := ?_) (by simp only [List.getElem?_toArray, List.getElem?_cons_succ, List.getElem?_cons_zero]; exact rfl) (by kernel_rfl) (by kernel_rfl) (by kernel_rfl) (by exact fun _ _ _ h => h) (Or.inl ⟨by rfl, ?_⟩) (by assumption) ?_
                  rotate_left
                  · intro w hSw; (try dsimp only at hSw); go_simp <;> with_reducible rfl
                  try simp only [Act.put, List.setIfInBounds_toArray, List.set_cons_zero, List.set_cons_succ]
                  refine wpAnyH_done (by kernel_rfl) ?_ _
                  rotate_left
                  clear hHeld k5 k6
                  by_cases hjk : j = k
                  · have e1 : ((j : Int) != (k : Int)) = false := by rw [hjk]; simp
                    have e1n : (j != k) = false := by rw [hjk]; simp
                    have HNX : Hid (z = Bo.lst ((Bo.frs (L.take (j + 1)) k).map fun f => Ar.at2 x.N x.D f nn)) := by
                      unfold Hid
                      rw [HZ.out]
                      subst hjk
                      rw [frs_same HP.out]
                    clear hjk
                    go_wp2_with fail
                    go_roundg gi
                    case measure => omega
                    case rel => exact ⟨j + 1, _, z, rfl, by omega, rfl, by first | rfl | go_num, HNX, HD8.out⟩
                  · have e1 : ((j : Int) != (k : Int)) = true := bne_iff_ne.2 (by omega)
                    have e1n : (j != k) = true := bne_iff_ne.2 hjk
                    have HNX : Hid (Bo.lst ((Bo.frs (L.take (j + 1)) k).map fun f => Ar.at2 x.N x.D f nn) = min z d) := by
                      unfold Hid
                      rw [frs_next HP.out hjk, List.map_append, List.map_singleton, Bo.lst_snoc (by simp [Bo.frs]), ← HZ.out, HPN.out, HZD.out.1]
                    clear hjk
                    by_cases hdz : d < z
                    · have e2 : decide (d < z) = true := decide_eq_true hdz
                      have HNY : Hid (d = Bo.lst ((Bo.frs (L.take (j + 1)) k).map fun f => Ar.at2 x.N x.D f nn)) := by unfold Hid; rw [HNX.out]; omega
                      clear hdz
                      go_wp2_with fail
                      go_roundg gi
                      case measure => omega
                      case rel => exact ⟨j + 1, _, d, rfl, by omega, rfl, by first | rfl | go_num, HNY, HD8.out⟩
                    · have e2 : decide (d < z) = false := decide_eq_false hdz
                      have HNY : Hid (z = Bo.lst ((Bo.frs (L.take (j + 1)) k).map fun f => Ar.at2 x.N x.D f nn)) := by unfold Hid; rw [HNX.out]; omega
                      clear hdz
                      go_wp2_with fail
                      go_roundg gi
                      case measure => omega
                      case rel => exact ⟨j + 1, _, z, rfl, by omega, rfl, by first | rfl | go_num, HNY, HD8.out⟩
                · obtain rfl : j = n := by omega
                  have HZK : Hid (Bo.near x.N x.D L k = z) := by
                    have h1 := HZ.out
                    rw [frs_all (by rw [HLN.out]; exact Nat.le_refl _)] at h1
                    unfold Hid Bo.near
                    rw [Bo.nd_at HO.out, HNN2.out, h1]
                  have HTK : Hid ((Bo.nears x.N x.D L).take (k + 1) = (Bo.nears x.N x.D L).take k ++ [z]) := by unfold Hid; rw [Bo.nears_take x.N x.D L k (by rw [HLN.out]; exact hlt), HZK.out]
                  have HALN : Hid (al + z = ((Bo.nears x.N x.D L).take (k + 1)).sum) := by unfold Hid; rw [HTK.out, sum_one, ← HAL.out]
                  have wa : IntKind.i64.wrap (al + z) = al + z := by
                    have h1 := Bo.sum_le 1000000 _ fun q hq => HNB.out q (List.mem_of_mem_take (i := k + 1) hq)
                    rw [← HALN.out, List.length_take, HNN.out] at h1
                    have h2 := HNB.out z (by rw [← HZK.out]; exact List.mem_of_getElem? (Bo.nears_at (by rw [HLN.out]; exact hlt)))
                    exact IntWalk.i64_in _ (by omega)
                  have hap := RCS.dist HD6.out z (by rw [List.length_take, HNN.out]; omega) (k + 1) (by rw [List.length_append, List.length_take, HNN.out]; simp; omega)
                  rw [← HTK.out] at hap
                  have HAP := Lib.hid hap
                  have y1 := HD6.out.c1
                  have y0 := HD6.out.c0
                  clear hap
                  go_upto_region 27 with (at_builtin; refine wpList_append_any rfl (.tmp 116) (.tmp 118) 22 22 rfl _ _ rfl rfl _ HAP.out ?_; intro v2 w7 hap; obtain ⟨A7, c7, rfl, e1, e2, HP7⟩ := hap)
                  clear y0 y1 e1 e2 HAP HD6
                  generalize w7.setCell ⟨g, 1, none⟩ (.slice A7 (k + 1) c7) = W7 at HP7 ⊢
                  obtain ⟨b, hb⟩ : ∃ z, Ar.at2 x.N x.D nn 0 = z := ⟨_, rfl⟩
                  obtain ⟨bt, hbt⟩ : ∃ z, Ar.at2 x.N x.T nn 0 = z := ⟨_, rfl⟩
                  have HL2 := Lib.hid (HLG.out W7 nn 0 b bt (HX2.out.w.below HP7.out.bel).at_ HTO.out H00.out ⟨hb, hbt⟩)
                  have HBN : Hid (Bo.lst ((L.map fun o => Ar.at2 x.N x.D o.node 0).take (k + 1)) = if k = 0 then b else min bk b) := by
                    unfold Hid
                    rw [lst_next (x := b) (by rw [List.getElem?_map, HO.out, ← hb, ← HNN2.out]; rfl), ← HBK.out]
                  clear hb hbt
                  have x0 := (HX2.out.w.below HP7.out.bel).c0
                  have x1 := (HX2.out.w.below HP7.out.bel).c1
                  have x2 := (HX2.out.w.below HP7.out.bel).c2
                  go_wp2_with fail
                  clear x0 x1 x2 wa
                  with_reducible refine HL2.out.mono ?_
                  rintro e w8 ⟨rfl, k8⟩
                  have HD8 := Lib.hid (HP7.out.below k8.out)
                  clear HP7 HL2 k8
                  have y2 := HD8.out.c2
                  have f2 := HD8.out.box.fz 2
                  by_cases hk0 : k = 0
                  · have e0 : ((k : Int) == 0) = true := by rw [hk0]; rfl
                    have e0n : (k == 0) = true := by rw [hk0]; rfl
                    have HBY : Hid (b = Bo.lst ((L.map fun o => Ar.at2 x.N x.D o.node 0).take (k + 1))) := by unfold Hid; rw [HBN.out, if_pos hk0]
                    clear hk0
                    go_wp2_with fail
                    go_roundg go
                    case measure => omega
                    case rel => exact ⟨k + 1, _, A7, c7, b, al + z, rfl, by omega, rfl, by first | rfl | go_num, HALN, HBY, HD8.out.set2 b⟩
                  · have e0 : ((k : Int) == 0) = false := beq_eq_false_iff_ne.2 (by omega)
                    have e0n : (k == 0) = false := beq_eq_false_iff_ne.2 hk0
                    rw [if_neg hk0] at HBN
                    clear hk0
                    by_cases hbb : b < bk
                    · have e2 : decide (b < bk) = true := decide_eq_true hbb
                      have HBY : Hid (b = Bo.lst ((L.map fun o => Ar.at2 x.N x.D o.node 0).take (k + 1))) := by unfold Hid; rw [HBN.out]; omega
                      clear hbb
                      go_wp2_with fail
                      go_roundg go
                      case measure => omega
                      case rel => exact ⟨k + 1, _, A7, c7, b, al + z, rfl, by omega, rfl, by first | rfl | go_num, HALN, HBY, HD8.out.set2 b⟩
                    · have e2 : decide (b < bk) = false := decide_eq_false hbb
                      have HBY : Hid (bk = Bo.lst ((L.map fun o => Ar.at2 x.N x.D o.node 0).take (k + 1))) := by unfold Hid; rw [HBN.out]; omega
                      clear hbb
                      go_wp2_with fail
                      go_roundg go
                      case measure => omega
                      case rel => exact ⟨k + 1, _, A7, c7, bk, al + z, rfl, by omega, rfl, by first | rfl | go_num, HALN, HBY, HD8.out⟩
            · obtain rfl : n = k := by omega
              have HAL2 : Hid (al = (Bo.nears x.N x.D L).sum) := by unfold Hid; rw [HAL.out, List.take_of_length_le (by rw [HNN.out]; exact Nat.le_refl _)]
              have HBK2 : Hid (Bo.backS x.N x.D L = bk) := by unfold Hid Bo.backS; rw [HBK.out, List.take_of_length_le (by rw [List.length_map, HLN.out]; exact Nat.le_refl _)]
              have HDL : Hid (RCS V g A3 n c3 nA n nc (Bo.nears x.N x.D L) bk 0 0 0 W0) := by
                have h := HD.out
                rw [List.take_of_length_le (by rw [HNN.out]; exact Nat.le_refl _)] at h
                exact h
              have HTL := Lib.hid HX2.out.w.at_.kl
              have htk := HX2.out.w.at_.k2
              have x4 := (HX2.out.w.below HDL.out.bel).c4
              have y0 := HDL.out.c0
              clear HD HAL HBK HLY HNO hkg hlt
              go_wp2_with fail
              clear x4 y0
              go_loopg [22] x.k (fun gk s22 W => ∃ (j : Nat) (W1 : World) (rt fx : Int), W1 = W ∧ j + gk = x.k ∧ s22 = .int .i64 (j : Int) ∧ Hid (rt = Bo.lst ((x.ts.map Ld.T.rate).take j)) ∧ Hid (fx = Bo.lst ((x.ts.map Ld.T.fixed).take j)) ∧ Hid (RCS V g A3 n c3 nA n nc (Bo.nears x.N x.D L) bk rt fx 0 W1))
              case atStart => exact ⟨0, _, 0, 0, rfl, by omega, rfl, rfl, rfl, HDL.out⟩
              case round =>
                clear HDL
                obtain ⟨j, W1, rt, fx, rfl, hjg, rfl, HRT, HFX, HD⟩ := hrel
                by_cases hlj : j < x.k
                · obtain ⟨gj, rfl⟩ : ∃ i, gk = i + 1 := ⟨gk - 1, by omega⟩
                  obtain ⟨t, ht⟩ := mlist_at x.ts j (by rw [HTL.out]; exact hlj)
                  have HT := Lib.hid ht
                  obtain ⟨tr, htr⟩ : ∃ z, t.rate = z := ⟨_, rfl⟩
                  obtain ⟨tf, htf⟩ : ∃ z, t.fixed = z := ⟨_, rfl⟩
                  have HTR := Lib.hid htr
                  have HTF := Lib.hid htf
                  obtain ⟨adB, hAB, _⟩ := HX2.out.w.at_.ts.at_ ht
                  have HAB := Lib.hid hAB
                  have HRN0 : Hid (Bo.lst ((x.ts.map Ld.T.rate).take (j + 1)) = if j = 0 then tr else min rt tr) := by
                    unfold Hid
                    rw [lst_next (x := tr) (by rw [List.getElem?_map, ht, ← htr]; rfl), ← HRT.out]
                  have HFN0 : Hid (Bo.lst ((x.ts.map Ld.T.fixed).take (j + 1)) = if j = 0 then tf else min fx tf) := by
                    unfold Hid
                    rw [lst_next (x := tf) (by rw [List.getElem?_map, ht, ← htf]; rfl), ← HFX.out]
                  have j1 : (0 : Int) ≤ (j : Int) := by omega
                  have j2 : (j : Int) < (x.k : Int) := by omega
                  clear ht htr htf hAB
                  have HIR : Hid (∀ U, RCS V g A3 n c3 nA n nc (Bo.nears x.N x.D L) bk rt fx 0 U → U.cell? ⟨b1, 4, none⟩ = some (.slice (some adB) x.k x.d) ∧ U.cell? ⟨(adB.add (j * 7)).block, (adB.add (j * 7)).off + 6, none⟩ = some (.int .i64 tr) ∧ U.cell? ⟨g, 3, none⟩ = some (.int .i64 rt)) := fun U hU => by
                    obtain ⟨ad', hA', hc⟩ := (HX2.out.w.at_.ts.below hU.bel).at_ HT.out
                    obtain rfl := Option.some.inj (HAB.out.symm.trans hA')
                    exact ⟨by rw [← HAB.out]; exact (HX2.out.w.below hU.bel).c4, by rw [← HTR.out]; exact hc.c6, hU.c3⟩
                  have HX4 : Hid (W1.cell? ⟨b1, 4, none⟩ = some (.slice (some adB) x.k x.d)) := (HIR.out _ HD.out).1
                  by_cases hj0 : j = 0
                  · have e0 : ((j : Int) == 0) = true := by rw [hj0]; rfl
                    have e0n : (j == 0) = true := by rw [hj0]; rfl
                    have HRN : Hid (tr = Bo.lst ((x.ts.map Ld.T.rate).take (j + 1))) := by unfold Hid; rw [HRN0.out, if_pos hj0]
                    have HFN : Hid (tf = Bo.lst ((x.ts.map Ld.T.fixed).take (j + 1))) := by unfold Hid; rw [HFN0.out, if_pos hj0]
                    clear hj0
                    have HDA := HD
                    have x4 := HX4.out
                    go_upto_region 34 with fail
                    refine wp_region_held_drew (S := (fun U : World => U.cell? ⟨b1, 4, none⟩ = some (.slice (some adB) x.k x.d) ∧ U.cell? ⟨(adB.add (j * 7)).block, (adB.add (j * 7)).off + 6, none⟩ = some (.int .i64 tr) ∧ U.cell? ⟨g, 3, none⟩ = some (.int .i64 rt))) (by kernel_rfl) (by (try dsimp only); exact HIR.out _ HD.out.drew) (fun hHeld => ?_)
                    refine wpAnyH_take (i := 0) (v := ?_) (by simp only [List.getElem?_toArray, List.getElem?_cons_zero]; exact rfl) (by kernel_rfl) (by kernel_rfl) (by kernel_rfl) (by exact fun _ _ _ h => h) (Or.inl ⟨by rfl, ?_⟩) (by assumption) ?_
                    rotate_left
                    · intro w hSw; (try dsimp only at hSw); go_simp <;> with_reducible rfl
                    try simp only [Act.put, List.setIfInBounds_toArray, List.set_cons_zero, List.set_cons_succ]
                    refine wpAnyH_take (i := 1) (v := ?_) (by simp only [List.getElem?_toArray, List.getElem?_cons_succ, List.getElem?_cons_zero]; exact rfl) (by kernel_rfl) (by kernel_rfl) (by kernel_rfl) (by exact fun _ _ _ h => h) (Or.inl ⟨by rfl, ?_⟩) (by assumption) ?_
                    rotate_left
                    · intro w hSw; (try dsimp only at hSw); go_simp <;> with_reducible rfl
                    try simp only [Act.put, List.setIfInBounds_toArray, List.set_cons_zero, List.set_cons_succ]
                    refine wpAnyH_take (i := 2) (v := ?_) (by simp only [List.getElem?_toArray, List.getElem?_cons_succ, List.getElem?_cons_zero]; exact rfl) (by kernel_rfl) (by kernel_rfl) (by kernel_rfl) (by exact fun _ _ _ h => h) (Or.inl ⟨by rfl, ?_⟩) (by assumption) ?_
                    rotate_left
                    · intro w hSw; (try dsimp only at hSw); go_simp <;> with_reducible rfl
                    try simp only [Act.put, List.setIfInBounds_toArray, List.set_cons_zero, List.set_cons_succ]
                    refine wpAnyH_take (i := 3) (v := undef) (by simp only [List.getElem?_toArray, List.getElem?_cons_succ, List.getElem?_cons_zero]; exact rfl) (by kernel_rfl) (by kernel_rfl) (by kernel_rfl) (by exact fun _ _ _ h => h) (Or.inr ⟨by rfl, rfl⟩) (by assumption) ?_
                    try simp only [Act.put, List.setIfInBounds_toArray, List.set_cons_zero, List.set_cons_succ]
                    refine wpAnyH_take (i := 4) (v := undef) (by simp only [List.getElem?_toArray, List.getElem?_cons_succ, List.getElem?_cons_zero]; exact rfl) (by kernel_rfl) (by kernel_rfl) (by kernel_rfl) (by exact fun _ _ _ h => h) (Or.inr ⟨by rfl, rfl⟩) (by assumption) ?_
                    try simp only [Act.put, List.setIfInBounds_toArray, List.set_cons_zero, List.set_cons_succ]
                    refine wpAnyH_take (i := 5) (v := undef) (by simp only [List.getElem?_toArray, List.getElem?_cons_succ, List.getElem?_cons_zero]; exact rfl) (by kernel_rfl) (by kernel_rfl) (by kernel_rfl) (by exact fun _ _ _ h => h) (Or.inr ⟨by rfl, rfl⟩) (by assumption) ?_
                    try simp only [Act.put, List.setIfInBounds_toArray, List.set_cons_zero, List.set_cons_succ]
                    refine wpAnyH_take (i := 6) (v := undef) (by simp only [List.getElem?_toArray, List.getElem?_cons_succ, List.getElem?_cons_zero]; exact rfl) (by kernel_rfl) (by kernel_rfl) (by kernel_rfl) (by exact fun _ _ _ h => h) (Or.inr ⟨by rfl, rfl⟩) (by assumption) ?_
                    try simp only [Act.put, List.setIfInBounds_toArray, List.set_cons_zero, List.set_cons_succ]
                    refine wpAnyH_take (i := 7) (v := undef) (by simp only [List.getElem?_toArray, List.getElem?_cons_succ, List.getElem?_cons_zero]; exact rfl) (by kernel_rfl) (by kernel_rfl) (by kernel_rfl) (by exact fun _ _ _ h => h) (Or.inr ⟨by rfl, rfl⟩) (by assumption) ?_
                    try simp only [Act.put, List.setIfInBounds_toArray, List.set_cons_zero, List.set_cons_succ]
                    refine wpAnyH_take (i := 8) (v := undef) (by simp only [List.getElem?_toArray, List.getElem?_cons_succ, List.getElem?_cons_zero]; exact rfl) (by kernel_rfl) (by kernel_rfl) (by kernel_rfl) (by exact fun _ _ _ h => h) (Or.inr ⟨by rfl, rfl⟩) (by assumption) ?_
                    try simp only [Act.put, List.setIfInBounds_toArray, List.set_cons_zero, List.set_cons_succ]
                    refine wpAnyH_take (i := 9) (v := undef) (by simp only [List.getElem?_toArray, List.getElem?_cons_succ, List.getElem?_cons_zero]; exact rfl) (by kernel_rfl) (by kernel_rfl) (by kernel_rfl) (by exact fun _ _ _ h => h) (Or.inr ⟨by rfl, rfl⟩) (by assumption) ?_
                    try simp only [Act.put, List.setIfInBounds_toArray, List.set_cons_zero, List.set_cons_succ]
                    refine wpAnyH_take (i := 10) (v := undef) (by simp only [List.getElem?_toArray, List.getElem?_cons_succ, List.getElem?_cons_zero]; exact rfl) (by kernel_rfl) (by kernel_rfl) (by kernel_rfl) (by exact fun _ _ _ h => h) (Or.inr ⟨by rfl, rfl⟩) (by assumption) ?_
                    try simp only [Act.put, List.setIfInBounds_toArray, List.set_cons_zero, List.set_cons_succ]
                    refine wpAnyH_take (i := 11) (v := undef) (by simp only [List.getElem?_toArray, List.getElem?_cons_succ, List.getElem?_cons_zero]; exact rfl) (by kernel_rfl) (by kernel_rfl) (by kernel_rfl) (by exact fun _ _ _ h => h) (Or.inr ⟨by rfl, rfl⟩) (by assumption) ?_
                    try simp only [Act.put, List.setIfInBounds_toArray, List.set_cons_zero, List.set_cons_succ]
                    refine wpAnyH_take (i := 12) (v := ?_) (by simp only [List.getElem?_toArray, List.getElem?_cons_succ, List.getElem?_cons_zero]; exact rfl) (by kernel_rfl) (by kernel_rfl) (by kernel_rfl) (by exact fun _ _ _ h => h) (Or.inl ⟨by rfl, ?_⟩) (by assumption) ?_
                    rotate_left
                    · intro w hSw; (try dsimp only at hSw); go_simp <;> with_reducible rfl
                    try simp only [Act.put, List.setIfInBounds_toArray, List.set_cons_zero, List.set_cons_succ]
                    refine wpAnyH_done (by kernel_rfl) ?_ _
                    rotate_left
                    clear hHeld
                    have f3 := HD.out.box.fz 3
                    have g3 := HD.out.c3
                    obtain ⟨_, t6, _⟩ := HIR.out _ HD.out
                    go_upto_region 36 with fail
                    clear f3 g3 t6 x4
                    have HD3 := Lib.hid (HD.out.set3 tr).drew
                    generalize (W1.setCell ⟨g, 3, none⟩ (.int .i64 tr)).drew = W3 at HD3 ⊢
                    clear HDA
                    have HIF : Hid (∀ U, RCS V g A3 n c3 nA n nc (Bo.nears x.N x.D L) bk tr fx 0 U → U.cell? ⟨b1, 4, none⟩ = some (.slice (some adB) x.k x.d) ∧ U.cell? ⟨(adB.add (j * 7)).block, (adB.add (j * 7)).off + 5, none⟩ = some (.int .i64 tf) ∧ U.cell? ⟨g, 4, none⟩ = some (.int .i64 fx)) := fun U hU => by
                      obtain ⟨ad', hA', hc⟩ := (HX2.out.w.at_.ts.below hU.bel).at_ HT.out
                      obtain rfl := Option.some.inj (HAB.out.symm.trans hA')
                      exact ⟨by rw [← HAB.out]; exact (HX2.out.w.below hU.bel).c4, by rw [← HTF.out]; exact hc.c5, hU.c4⟩
                    refine wp_region_held_drew (S := (fun U : World => U.cell? ⟨b1, 4, none⟩ = some (.slice (some adB) x.k x.d) ∧ U.cell? ⟨(adB.add (j * 7)).block, (adB.add (j * 7)).off + 5, none⟩ = some (.int .i64 tf) ∧ U.cell? ⟨g, 4, none⟩ = some (.int .i64 fx))) (by kernel_rfl) (by (try dsimp only); exact HIF.out _ HD3.out.drew) (fun hHeld => ?_)
                    refine wpAnyH_take (i := 0) (v := ?_) (by simp only [List.getElem?_toArray, List.getElem?_cons_zero]; exact rfl) (by kernel_rfl) (by kernel_rfl) (by kernel_rfl) (by exact fun _ _ _ h => h) (Or.inl ⟨by rfl, ?_⟩) (by assumption) ?_
                    rotate_left
                    · intro w hSw; (try dsimp only at hSw); go_simp <;> with_reducible rfl
                    try simp only [Act.put, List.setIfInBounds_toArray, List.set_cons_zero, List.set_cons_succ]
                    refine wpAnyH_take (i := 1) (v := ?_) (by simp only [List.getElem?_toArray, List.getElem?_cons_succ, List.getElem?_cons_zero]; exact rfl) (by kernel_rfl) (by kernel_rfl) (by kernel_rfl) (by exact fun _ _ _ h => h) (Or.inl ⟨by rfl, ?_⟩) (by assumption) ?_
                    rotate_left
                    · intro w hSw; (try dsimp only at hSw); go_simp <;> with_reducible rfl
                    try simp only [Act.put, List.setIfInBounds_toArray, List.set_cons_zero, List.set_cons_succ]
                    refine wpAnyH_take (i := 2) (v := ?_) (by simp only [List.getElem?_toArray, List.getElem?_cons_succ, List.getElem?_cons_zero]; exact rfl) (by kernel_rfl) (by kernel_rfl) (by kernel_rfl) (by exact fun _ _ _ h => h) (Or.inl ⟨by rfl, ?_⟩) (by assumption) ?_
                    rotate_left
                    · intro w hSw; (try dsimp only at hSw); go_simp <;> with_reducible rfl
                    try simp only [Act.put, List.setIfInBounds_toArray, List.set_cons_zero, List.set_cons_succ]
                    refine wpAnyH_take (i := 3) (v := undef) (by simp only [List.getElem?_toArray, List.getElem?_cons_succ, List.getElem?_cons_zero]; exact rfl) (by kernel_rfl) (by kernel_rfl) (by kernel_rfl) (by exact fun _ _ _ h => h) (Or.inr ⟨by rfl, rfl⟩) (by assumption) ?_
                    try simp only [Act.put, List.setIfInBounds_toArray, List.set_cons_zero, List.set_cons_succ]
                    refine wpAnyH_take (i := 4) (v := undef) (by simp only [List.getElem?_toArray, List.getElem?_cons_succ, List.getElem?_cons_zero]; exact rfl) (by kernel_rfl) (by kernel_rfl) (by kernel_rfl) (by exact fun _ _ _ h => h) (Or.inr ⟨by rfl, rfl⟩) (by assumption) ?_
                    try simp only [Act.put, List.setIfInBounds_toArray, List.set_cons_zero, List.set_cons_succ]
                    refine wpAnyH_take (i := 5) (v := undef) (by simp only [List.getElem?_toArray, List.getElem?_cons_succ, List.getElem?_cons_zero]; exact rfl) (by kernel_rfl) (by kernel_rfl) (by kernel_rfl) (by exact fun _ _ _ h => h) (Or.inr ⟨by rfl, rfl⟩) (by assumption) ?_
                    try simp only [Act.put, List.setIfInBounds_toArray, List.set_cons_zero, List.set_cons_succ]
                    refine wpAnyH_take (i := 6) (v := undef) (by simp only [List.getElem?_toArray, List.getElem?_cons_succ, List.getElem?_cons_zero]; exact rfl) (by kernel_rfl) (by kernel_rfl) (by kernel_rfl) (by exact fun _ _ _ h => h) (Or.inr ⟨by rfl, rfl⟩) (by assumption) ?_
                    try simp only [Act.put, List.setIfInBounds_toArray, List.set_cons_zero, List.set_cons_succ]
                    refine wpAnyH_take (i := 7) (v := undef) (by simp only [List.getElem?_toArray, List.getElem?_cons_succ, List.getElem?_cons_zero]; exact rfl) (by kernel_rfl) (by kernel_rfl) (by kernel_rfl) (by exact fun _ _ _ h => h) (Or.inr ⟨by rfl, rfl⟩) (by assumption) ?_
                    try simp only [Act.put, List.setIfInBounds_toArray, List.set_cons_zero, List.set_cons_succ]
                    refine wpAnyH_take (i := 8) (v := undef) (by simp only [List.getElem?_toArray, List.getElem?_cons_succ, List.getElem?_cons_zero]; exact rfl) (by kernel_rfl) (by kernel_rfl) (by kernel_rfl) (by exact fun _ _ _ h => h) (Or.inr ⟨by rfl, rfl⟩) (by assumption) ?_
                    try simp only [Act.put, List.setIfInBounds_toArray, List.set_cons_zero, List.set_cons_succ]
                    refine wpAnyH_take (i := 9) (v := undef) (by simp only [List.getElem?_toArray, List.getElem?_cons_succ, List.getElem?_cons_zero]; exact rfl) (by kernel_rfl) (by kernel_rfl) (by kernel_rfl) (by exact fun _ _ _ h => h) (Or.inr ⟨by rfl, rfl⟩) (by assumption) ?_
                    try simp only [Act.put, List.setIfInBounds_toArray, List.set_cons_zero, List.set_cons_succ]
                    refine wpAnyH_take (i := 10) (v := undef) (by simp only [List.getElem?_toArray, List.getElem?_cons_succ, List.getElem?_cons_zero]; exact rfl) (by kernel_rfl) (by kernel_rfl) (by kernel_rfl) (by exact fun _ _ _ h => h) (Or.inr ⟨by rfl, rfl⟩) (by assumption) ?_
                    try simp only [Act.put, List.setIfInBounds_toArray, List.set_cons_zero, List.set_cons_succ]
                    refine wpAnyH_take (i := 11) (v := undef) (by simp only [List.getElem?_toArray, List.getElem?_cons_succ, List.getElem?_cons_zero]; exact rfl) (by kernel_rfl) (by kernel_rfl) (by kernel_rfl) (by exact fun _ _ _ h => h) (Or.inr ⟨by rfl, rfl⟩) (by assumption) ?_
                    try simp only [Act.put, List.setIfInBounds_toArray, List.set_cons_zero, List.set_cons_succ]
                    refine wpAnyH_take (i := 12) (v := ?_) (by simp only [List.getElem?_toArray, List.getElem?_cons_succ, List.getElem?_cons_zero]; exact rfl) (by kernel_rfl) (by kernel_rfl) (by kernel_rfl) (by exact fun _ _ _ h => h) (Or.inl ⟨by rfl, ?_⟩) (by assumption) ?_
                    rotate_left
                    · intro w hSw; (try dsimp only at hSw); go_simp <;> with_reducible rfl
                    try simp only [Act.put, List.setIfInBounds_toArray, List.set_cons_zero, List.set_cons_succ]
                    refine wpAnyH_done (by kernel_rfl) ?_ _
                    rotate_left
                    clear hHeld
                    have f4 := HD3.out.box.fz 4
                    have g4 := HD3.out.c4
                    obtain ⟨x4, t5, _⟩ := HIF.out _ HD3.out
                    go_wp2_with fail
                    go_roundg gj
                    case measure => omega
                    case rel => exact ⟨j + 1, _, tr, tf, rfl, by omega, by first | rfl | go_num, HRN, HFN, (HD3.out.set4 tf).drew⟩
                  · have e0 : ((j : Int) == 0) = false := beq_eq_false_iff_ne.2 (by omega)
                    have e0n : (j == 0) = false := beq_eq_false_iff_ne.2 hj0
                    rw [if_neg hj0] at HRN0 HFN0
                    clear hj0
                    by_cases hr1 : tr < rt
                    · have e1 : decide (tr < rt) = true := decide_eq_true hr1
                      have HRN : Hid (tr = Bo.lst ((x.ts.map Ld.T.rate).take (j + 1))) := by unfold Hid; rw [HRN0.out]; omega
                      clear hr1
                      by_cases hf1 : tf < fx
                      · have e2 : decide (tf < fx) = true := decide_eq_true hf1
                        have HFN : Hid (tf = Bo.lst ((x.ts.map Ld.T.fixed).take (j + 1))) := by unfold Hid; rw [HFN0.out]; omega
                        clear hf1
                        have HDA := HD
                        have x4 := HX4.out
                        go_upto_region 34 with fail
                        refine wp_region_held_drew (S := (fun U : World => U.cell? ⟨b1, 4, none⟩ = some (.slice (some adB) x.k x.d) ∧ U.cell? ⟨(adB.add (j * 7)).block, (adB.add (j * 7)).off + 6, none⟩ = some (.int .i64 tr) ∧ U.cell? ⟨g, 3, none⟩ = some (.int .i64 rt))) (by kernel_rfl) (by (try dsimp only); exact HIR.out _ HD.out.drew) (fun hHeld => ?_)
                        refine wpAnyH_take (i := 0) (v := ?_) (by simp only [List.getElem?_toArray, List.getElem?_cons_zero]; exact rfl) (by kernel_rfl) (by kernel_rfl) (by kernel_rfl) (by exact fun _ _ _ h => h) (Or.inl ⟨by rfl, ?_⟩) (by assumption) ?_
                        rotate_left
                        · intro w hSw; (try dsimp only at hSw); go_simp <;> with_reducible rfl
                        try simp only [Act.put, List.setIfInBounds_toArray, List.set_cons_zero, List.set_cons_succ]
                        refine wpAnyH_take (i := 1) (v := ?_) (by simp only [List.getElem?_toArray, List.getElem?_cons_succ, List.getElem?_cons_zero]; exact rfl) (by kernel_rfl) (by kernel_rfl) (by kernel_rfl) (by exact fun _ _ _ h => h) (Or.inl ⟨by rfl, ?_⟩) (by assumption) ?_
                        rotate_left
                        · intro w hSw; (try dsimp only at hSw); go_simp <;> with_reducible rfl
                        try simp only [Act.put, List.setIfInBounds_toArray, List.set_cons_zero, List.set_cons_succ]
                        refine wpAnyH_take (i := 2) (v := ?_) (by simp only [List.getElem?_toArray, List.getElem?_cons_succ, List.getElem?_cons_zero]; exact rfl) (by kernel_rfl) (by kernel_rfl) (by kernel_rfl) (by exact fun _ _ _ h => h) (Or.inl ⟨by rfl, ?_⟩) (by assumption) ?_
                        rotate_left
                        · intro w hSw; (try dsimp only at hSw); go_simp <;> with_reducible rfl
                        try simp only [Act.put, List.setIfInBounds_toArray, List.set_cons_zero, List.set_cons_succ]
                        refine wpAnyH_take (i := 3) (v := ?_) (by simp only [List.getElem?_toArray, List.getElem?_cons_succ, List.getElem?_cons_zero]; exact rfl) (by kernel_rfl) (by kernel_rfl) (by kernel_rfl) (by exact fun _ _ _ h => h) (Or.inl ⟨by rfl, ?_⟩) (by assumption) ?_
                        rotate_left
                        · intro w hSw; (try dsimp only at hSw); go_simp <;> with_reducible rfl
                        try simp only [Act.put, List.setIfInBounds_toArray, List.set_cons_zero, List.set_cons_succ]
                        refine wpAnyH_take (i := 4) (v := ?_) (by simp only [List.getElem?_toArray, List.getElem?_cons_succ, List.getElem?_cons_zero]; exact rfl) (by kernel_rfl) (by kernel_rfl) (by kernel_rfl) (by exact fun _ _ _ h => h) (Or.inl ⟨by rfl, ?_⟩) (by assumption) ?_
                        rotate_left
                        · intro w hSw; (try dsimp only at hSw); go_simp <;> with_reducible rfl
                        try simp only [Act.put, List.setIfInBounds_toArray, List.set_cons_zero, List.set_cons_succ]
                        refine wpAnyH_take (i := 5) (v := ?_) (by simp only [List.getElem?_toArray, List.getElem?_cons_succ, List.getElem?_cons_zero]; exact rfl) (by kernel_rfl) (by kernel_rfl) (by kernel_rfl) (by exact fun _ _ _ h => h) (Or.inl ⟨by rfl, ?_⟩) (by assumption) ?_
                        rotate_left
                        · intro w hSw; (try dsimp only at hSw); go_simp <;> with_reducible rfl
                        try simp only [Act.put, List.setIfInBounds_toArray, List.set_cons_zero, List.set_cons_succ]
                        refine wpAnyH_take (i := 6) (v := ?_) (by simp only [List.getElem?_toArray, List.getElem?_cons_succ, List.getElem?_cons_zero]; exact rfl) (by kernel_rfl) (by kernel_rfl) (by kernel_rfl) (by exact fun _ _ _ h => h) (Or.inl ⟨by rfl, ?_⟩) (by assumption) ?_
                        rotate_left
                        · intro w hSw; (try dsimp only at hSw); go_simp <;> with_reducible rfl
                        try simp only [Act.put, List.setIfInBounds_toArray, List.set_cons_zero, List.set_cons_succ]
                        refine wpAnyH_take (i := 7) (v := ?_) (by simp only [List.getElem?_toArray, List.getElem?_cons_succ, List.getElem?_cons_zero]; exact rfl) (by kernel_rfl) (by kernel_rfl) (by kernel_rfl) (by exact fun _ _ _ h => h) (Or.inl ⟨by rfl, ?_⟩) (by assumption) ?_
                        rotate_left
                        · intro w hSw; (try dsimp only at hSw); go_simp <;> with_reducible rfl
                        try simp only [Act.put, List.setIfInBounds_toArray, List.set_cons_zero, List.set_cons_succ]
                        refine wpAnyH_take (i := 8) (v := ?_) (by simp only [List.getElem?_toArray, List.getElem?_cons_succ, List.getElem?_cons_zero]; exact rfl) (by kernel_rfl) (by kernel_rfl) (by kernel_rfl) (by exact fun _ _ _ h => h) (Or.inl ⟨by rfl, ?_⟩) (by assumption) ?_
                        rotate_left
                        · intro w hSw; (try dsimp only at hSw); go_simp <;> with_reducible rfl
                        try simp only [Act.put, List.setIfInBounds_toArray, List.set_cons_zero, List.set_cons_succ]
                        refine wpAnyH_take (i := 9) (v := ?_) (by simp only [List.getElem?_toArray, List.getElem?_cons_succ, List.getElem?_cons_zero]; exact rfl) (by kernel_rfl) (by kernel_rfl) (by kernel_rfl) (by exact fun _ _ _ h => h) (Or.inl ⟨by rfl, ?_⟩) (by assumption) ?_
                        rotate_left
                        · intro w hSw; (try dsimp only at hSw); go_simp <;> with_reducible rfl
                        try simp only [Act.put, List.setIfInBounds_toArray, List.set_cons_zero, List.set_cons_succ]
                        refine wpAnyH_take (i := 10) (v := ?_) (by simp only [List.getElem?_toArray, List.getElem?_cons_succ, List.getElem?_cons_zero]; exact rfl) (by kernel_rfl) (by kernel_rfl) (by kernel_rfl) (by exact fun _ _ _ h => h) (Or.inl ⟨by rfl, ?_⟩) (by assumption) ?_
                        rotate_left
                        · intro w hSw; (try dsimp only at hSw); go_simp <;> with_reducible rfl
                        try simp only [Act.put, List.setIfInBounds_toArray, List.set_cons_zero, List.set_cons_succ]
                        refine wpAnyH_take (i := 11) (v := ?_) (by simp only [List.getElem?_toArray, List.getElem?_cons_succ, List.getElem?_cons_zero]; exact rfl) (by kernel_rfl) (by kernel_rfl) (by kernel_rfl) (by exact fun _ _ _ h => h) (Or.inl ⟨by rfl, ?_⟩) (by assumption) ?_
                        rotate_left
                        · intro w hSw; (try dsimp only at hSw); go_simp <;> with_reducible rfl
                        try simp only [Act.put, List.setIfInBounds_toArray, List.set_cons_zero, List.set_cons_succ]
                        refine wpAnyH_take (i := 12) (v := ?_) (by simp only [List.getElem?_toArray, List.getElem?_cons_succ, List.getElem?_cons_zero]; exact rfl) (by kernel_rfl) (by kernel_rfl) (by kernel_rfl) (by exact fun _ _ _ h => h) (Or.inl ⟨by rfl, ?_⟩) (by assumption) ?_
                        rotate_left
                        · intro w hSw; (try dsimp only at hSw); go_simp <;> with_reducible rfl
                        try simp only [Act.put, List.setIfInBounds_toArray, List.set_cons_zero, List.set_cons_succ]
                        refine wpAnyH_done (by kernel_rfl) ?_ _
                        rotate_left
                        clear hHeld
                        have f3 := HD.out.box.fz 3
                        have g3 := HD.out.c3
                        obtain ⟨_, t6, _⟩ := HIR.out _ HD.out
                        go_upto_region 36 with fail
                        clear f3 g3 t6 x4
                        have HD3 := Lib.hid (HD.out.set3 tr).drew
                        generalize (W1.setCell ⟨g, 3, none⟩ (.int .i64 tr)).drew = W3 at HD3 ⊢
                        clear HDA
                        have HIF : Hid (∀ U, RCS V g A3 n c3 nA n nc (Bo.nears x.N x.D L) bk tr fx 0 U → U.cell? ⟨b1, 4, none⟩ = some (.slice (some adB) x.k x.d) ∧ U.cell? ⟨(adB.add (j * 7)).block, (adB.add (j * 7)).off + 5, none⟩ = some (.int .i64 tf) ∧ U.cell? ⟨g, 4, none⟩ = some (.int .i64 fx)) := fun U hU => by
                          obtain ⟨ad', hA', hc⟩ := (HX2.out.w.at_.ts.below hU.bel).at_ HT.out
                          obtain rfl := Option.some.inj (HAB.out.symm.trans hA')
                          exact ⟨by rw [← HAB.out]; exact (HX2.out.w.below hU.bel).c4, by rw [← HTF.out]; exact hc.c5, hU.c4⟩
                        refine wp_region_held_drew (S := (fun U : World => U.cell? ⟨b1, 4, none⟩ = some (.slice (some adB) x.k x.d) ∧ U.cell? ⟨(adB.add (j * 7)).block, (adB.add (j * 7)).off + 5, none⟩ = some (.int .i64 tf) ∧ U.cell? ⟨g, 4, none⟩ = some (.int .i64 fx))) (by kernel_rfl) (by (try dsimp only); exact HIF.out _ HD3.out.drew) (fun hHeld => ?_)
                        refine wpAnyH_take (i := 0) (v := ?_) (by simp only [List.getElem?_toArray, List.getElem?_cons_zero]; exact rfl) (by kernel_rfl) (by kernel_rfl) (by kernel_rfl) (by exact fun _ _ _ h => h) (Or.inl ⟨by rfl, ?_⟩) (by assumption) ?_
                        rotate_left
                        · intro w hSw; (try dsimp only at hSw); go_simp <;> with_reducible rfl
                        try simp only [Act.put, List.setIfInBounds_toArray, List.set_cons_zero, List.set_cons_succ]
                        refine wpAnyH_take (i := 1) (v := ?_) (by simp only [List.getElem?_toArray, List.getElem?_cons_succ, List.getElem?_cons_zero]; exact rfl) (by kernel_rfl) (by kernel_rfl) (by kernel_rfl) (by exact fun _ _ _ h => h) (Or.inl ⟨by rfl, ?_⟩) (by assumption) ?_
                        rotate_left
                        · intro w hSw; (try dsimp only at hSw); go_simp <;> with_reducible rfl
                        try simp only [Act.put, List.setIfInBounds_toArray, List.set_cons_zero, List.set_cons_succ]
                        refine wpAnyH_take (i := 2) (v := ?_) (by simp only [List.getElem?_toArray, List.getElem?_cons_succ, List.getElem?_cons_zero]; exact rfl) (by kernel_rfl) (by kernel_rfl) (by kernel_rfl) (by exact fun _ _ _ h => h) (Or.inl ⟨by rfl, ?_⟩) (by assumption) ?_
                        rotate_left
                        · intro w hSw; (try dsimp only at hSw); go_simp <;> with_reducible rfl
                        try simp only [Act.put, List.setIfInBounds_toArray, List.set_cons_zero, List.set_cons_succ]
                        refine wpAnyH_take (i := 3) (v := ?_) (by simp only [List.getElem?_toArray, List.getElem?_cons_succ, List.getElem?_cons_zero]; exact rfl) (by kernel_rfl) (by kernel_rfl) (by kernel_rfl) (by exact fun _ _ _ h => h) (Or.inl ⟨by rfl, ?_⟩) (by assumption) ?_
                        rotate_left
                        · intro w hSw; (try dsimp only at hSw); go_simp <;> with_reducible rfl
                        try simp only [Act.put, List.setIfInBounds_toArray, List.set_cons_zero, List.set_cons_succ]
                        refine wpAnyH_take (i := 4) (v := ?_) (by simp only [List.getElem?_toArray, List.getElem?_cons_succ, List.getElem?_cons_zero]; exact rfl) (by kernel_rfl) (by kernel_rfl) (by kernel_rfl) (by exact fun _ _ _ h => h) (Or.inl ⟨by rfl, ?_⟩) (by assumption) ?_
                        rotate_left
                        · intro w hSw; (try dsimp only at hSw); go_simp <;> with_reducible rfl
                        try simp only [Act.put, List.setIfInBounds_toArray, List.set_cons_zero, List.set_cons_succ]
                        refine wpAnyH_take (i := 5) (v := ?_) (by simp only [List.getElem?_toArray, List.getElem?_cons_succ, List.getElem?_cons_zero]; exact rfl) (by kernel_rfl) (by kernel_rfl) (by kernel_rfl) (by exact fun _ _ _ h => h) (Or.inl ⟨by rfl, ?_⟩) (by assumption) ?_
                        rotate_left
                        · intro w hSw; (try dsimp only at hSw); go_simp <;> with_reducible rfl
                        try simp only [Act.put, List.setIfInBounds_toArray, List.set_cons_zero, List.set_cons_succ]
                        refine wpAnyH_take (i := 6) (v := ?_) (by simp only [List.getElem?_toArray, List.getElem?_cons_succ, List.getElem?_cons_zero]; exact rfl) (by kernel_rfl) (by kernel_rfl) (by kernel_rfl) (by exact fun _ _ _ h => h) (Or.inl ⟨by rfl, ?_⟩) (by assumption) ?_
                        rotate_left
                        · intro w hSw; (try dsimp only at hSw); go_simp <;> with_reducible rfl
                        try simp only [Act.put, List.setIfInBounds_toArray, List.set_cons_zero, List.set_cons_succ]
                        refine wpAnyH_take (i := 7) (v := ?_) (by simp only [List.getElem?_toArray, List.getElem?_cons_succ, List.getElem?_cons_zero]; exact rfl) (by kernel_rfl) (by kernel_rfl) (by kernel_rfl) (by exact fun _ _ _ h => h) (Or.inl ⟨by rfl, ?_⟩) (by assumption) ?_
                        rotate_left
                        · intro w hSw; (try dsimp only at hSw); go_simp <;> with_reducible rfl
                        try simp only [Act.put, List.setIfInBounds_toArray, List.set_cons_zero, List.set_cons_succ]
                        refine wpAnyH_take (i := 8) (v := ?_) (by simp only [List.getElem?_toArray, List.getElem?_cons_succ, List.getElem?_cons_zero]; exact rfl) (by kernel_rfl) (by kernel_rfl) (by kernel_rfl) (by exact fun _ _ _ h => h) (Or.inl ⟨by rfl, ?_⟩) (by assumption) ?_
                        rotate_left
                        · intro w hSw; (try dsimp only at hSw); go_simp <;> with_reducible rfl
                        try simp only [Act.put, List.setIfInBounds_toArray, List.set_cons_zero, List.set_cons_succ]
                        refine wpAnyH_take (i := 9) (v := ?_) (by simp only [List.getElem?_toArray, List.getElem?_cons_succ, List.getElem?_cons_zero]; exact rfl) (by kernel_rfl) (by kernel_rfl) (by kernel_rfl) (by exact fun _ _ _ h => h) (Or.inl ⟨by rfl, ?_⟩) (by assumption) ?_
                        rotate_left
                        · intro w hSw; (try dsimp only at hSw); go_simp <;> with_reducible rfl
                        try simp only [Act.put, List.setIfInBounds_toArray, List.set_cons_zero, List.set_cons_succ]
                        refine wpAnyH_take (i := 10) (v := ?_) (by simp only [List.getElem?_toArray, List.getElem?_cons_succ, List.getElem?_cons_zero]; exact rfl) (by kernel_rfl) (by kernel_rfl) (by kernel_rfl) (by exact fun _ _ _ h => h) (Or.inl ⟨by rfl, ?_⟩) (by assumption) ?_
                        rotate_left
                        · intro w hSw; (try dsimp only at hSw); go_simp <;> with_reducible rfl
                        try simp only [Act.put, List.setIfInBounds_toArray, List.set_cons_zero, List.set_cons_succ]
                        refine wpAnyH_take (i := 11) (v := ?_) (by simp only [List.getElem?_toArray, List.getElem?_cons_succ, List.getElem?_cons_zero]; exact rfl) (by kernel_rfl) (by kernel_rfl) (by kernel_rfl) (by exact fun _ _ _ h => h) (Or.inl ⟨by rfl, ?_⟩) (by assumption) ?_
                        rotate_left
                        · intro w hSw; (try dsimp only at hSw); go_simp <;> with_reducible rfl
                        try simp only [Act.put, List.setIfInBounds_toArray, List.set_cons_zero, List.set_cons_succ]
                        refine wpAnyH_take (i := 12) (v := ?_) (by simp only [List.getElem?_toArray, List.getElem?_cons_succ, List.getElem?_cons_zero]; exact rfl) (by kernel_rfl) (by kernel_rfl) (by kernel_rfl) (by exact fun _ _ _ h => h) (Or.inl ⟨by rfl, ?_⟩) (by assumption) ?_
                        rotate_left
                        · intro w hSw; (try dsimp only at hSw); go_simp <;> with_reducible rfl
                        try simp only [Act.put, List.setIfInBounds_toArray, List.set_cons_zero, List.set_cons_succ]
                        refine wpAnyH_done (by kernel_rfl) ?_ _
                        rotate_left
                        clear hHeld
                        have f4 := HD3.out.box.fz 4
                        have g4 := HD3.out.c4
                        obtain ⟨x4, t5, _⟩ := HIF.out _ HD3.out
                        go_wp2_with fail
                        go_roundg gj
                        case measure => omega
                        case rel => exact ⟨j + 1, _, tr, tf, rfl, by omega, by first | rfl | go_num, HRN, HFN, (HD3.out.set4 tf).drew⟩
                      · have e2 : decide (tf < fx) = false := decide_eq_false hf1
                        have HFN : Hid (fx = Bo.lst ((x.ts.map Ld.T.fixed).take (j + 1))) := by unfold Hid; rw [HFN0.out]; omega
                        clear hf1
                        have HDA := HD
                        have x4 := HX4.out
                        go_upto_region 34 with fail
                        refine wp_region_held_drew (S := (fun U : World => U.cell? ⟨b1, 4, none⟩ = some (.slice (some adB) x.k x.d) ∧ U.cell? ⟨(adB.add (j * 7)).block, (adB.add (j * 7)).off + 6, none⟩ = some (.int .i64 tr) ∧ U.cell? ⟨g, 3, none⟩ = some (.int .i64 rt))) (by kernel_rfl) (by (try dsimp only); exact HIR.out _ HD.out.drew) (fun hHeld => ?_)
                        refine wpAnyH_take (i := 0) (v := ?_) (by simp only [List.getElem?_toArray, List.getElem?_cons_zero]; exact rfl) (by kernel_rfl) (by kernel_rfl) (by kernel_rfl) (by exact fun _ _ _ h => h) (Or.inl ⟨by rfl, ?_⟩) (by assumption) ?_
                        rotate_left
                        · intro w hSw; (try dsimp only at hSw); go_simp <;> with_reducible rfl
                        try simp only [Act.put, List.setIfInBounds_toArray, List.set_cons_zero, List.set_cons_succ]
                        refine wpAnyH_take (i := 1) (v := ?_) (by simp only [List.getElem?_toArray, List.getElem?_cons_succ, List.getElem?_cons_zero]; exact rfl) (by kernel_rfl) (by kernel_rfl) (by kernel_rfl) (by exact fun _ _ _ h => h) (Or.inl ⟨by rfl, ?_⟩) (by assumption) ?_
                        rotate_left
                        · intro w hSw; (try dsimp only at hSw); go_simp <;> with_reducible rfl
                        try simp only [Act.put, List.setIfInBounds_toArray, List.set_cons_zero, List.set_cons_succ]
                        refine wpAnyH_take (i := 2) (v := ?_) (by simp only [List.getElem?_toArray, List.getElem?_cons_succ, List.getElem?_cons_zero]; exact rfl) (by kernel_rfl) (by kernel_rfl) (by kernel_rfl) (by exact fun _ _ _ h => h) (Or.inl ⟨by rfl, ?_⟩) (by assumption) ?_
                        rotate_left
                        · intro w hSw; (try dsimp only at hSw); go_simp <;> with_reducible rfl
                        try simp only [Act.put, List.setIfInBounds_toArray, List.set_cons_zero, List.set_cons_succ]
                        refine wpAnyH_take (i := 3) (v := ?_) (by simp only [List.getElem?_toArray, List.getElem?_cons_succ, List.getElem?_cons_zero]; exact rfl) (by kernel_rfl) (by kernel_rfl) (by kernel_rfl) (by exact fun _ _ _ h => h) (Or.inl ⟨by rfl, ?_⟩) (by assumption) ?_
                        rotate_left
                        · intro w hSw; (try dsimp only at hSw); go_simp <;> with_reducible rfl
                        try simp only [Act.put, List.setIfInBounds_toArray, List.set_cons_zero, List.set_cons_succ]
                        refine wpAnyH_take (i := 4) (v := ?_) (by simp only [List.getElem?_toArray, List.getElem?_cons_succ, List.getElem?_cons_zero]; exact rfl) (by kernel_rfl) (by kernel_rfl) (by kernel_rfl) (by exact fun _ _ _ h => h) (Or.inl ⟨by rfl, ?_⟩) (by assumption) ?_
                        rotate_left
                        · intro w hSw; (try dsimp only at hSw); go_simp <;> with_reducible rfl
                        try simp only [Act.put, List.setIfInBounds_toArray, List.set_cons_zero, List.set_cons_succ]
                        refine wpAnyH_take (i := 5) (v := ?_) (by simp only [List.getElem?_toArray, List.getElem?_cons_succ, List.getElem?_cons_zero]; exact rfl) (by kernel_rfl) (by kernel_rfl) (by kernel_rfl) (by exact fun _ _ _ h => h) (Or.inl ⟨by rfl, ?_⟩) (by assumption) ?_
                        rotate_left
                        · intro w hSw; (try dsimp only at hSw); go_simp <;> with_reducible rfl
                        try simp only [Act.put, List.setIfInBounds_toArray, List.set_cons_zero, List.set_cons_succ]
                        refine wpAnyH_take (i := 6) (v := ?_) (by simp only [List.getElem?_toArray, List.getElem?_cons_succ, List.getElem?_cons_zero]; exact rfl) (by kernel_rfl) (by kernel_rfl) (by kernel_rfl) (by exact fun _ _ _ h => h) (Or.inl ⟨by rfl, ?_⟩) (by assumption) ?_
                        rotate_left
                        · intro w hSw; (try dsimp only at hSw); go_simp <;> with_reducible rfl
                        try simp only [Act.put, List.setIfInBounds_toArray, List.set_cons_zero, List.set_cons_succ]
                        refine wpAnyH_take (i := 7) (v := ?_) (by simp only [List.getElem?_toArray, List.getElem?_cons_succ, List.getElem?_cons_zero]; exact rfl) (by kernel_rfl) (by kernel_rfl) (by kernel_rfl) (by exact fun _ _ _ h => h) (Or.inl ⟨by rfl, ?_⟩) (by assumption) ?_
                        rotate_left
                        · intro w hSw; (try dsimp only at hSw); go_simp <;> with_reducible rfl
                        try simp only [Act.put, List.setIfInBounds_toArray, List.set_cons_zero, List.set_cons_succ]
                        refine wpAnyH_take (i := 8) (v := ?_) (by simp only [List.getElem?_toArray, List.getElem?_cons_succ, List.getElem?_cons_zero]; exact rfl) (by kernel_rfl) (by kernel_rfl) (by kernel_rfl) (by exact fun _ _ _ h => h) (Or.inl ⟨by rfl, ?_⟩) (by assumption) ?_
                        rotate_left
                        · intro w hSw; (try dsimp only at hSw); go_simp <;> with_reducible rfl
                        try simp only [Act.put, List.setIfInBounds_toArray, List.set_cons_zero, List.set_cons_succ]
                        refine wpAnyH_take (i := 9) (v := ?_) (by simp only [List.getElem?_toArray, List.getElem?_cons_succ, List.getElem?_cons_zero]; exact rfl) (by kernel_rfl) (by kernel_rfl) (by kernel_rfl) (by exact fun _ _ _ h => h) (Or.inl ⟨by rfl, ?_⟩) (by assumption) ?_
                        rotate_left
                        · intro w hSw; (try dsimp only at hSw); go_simp <;> with_reducible rfl
                        try simp only [Act.put, List.setIfInBounds_toArray, List.set_cons_zero, List.set_cons_succ]
                        refine wpAnyH_take (i := 10) (v := ?_) (by simp only [List.getElem?_toArray, List.getElem?_cons_succ, List.getElem?_cons_zero]; exact rfl) (by kernel_rfl) (by kernel_rfl) (by kernel_rfl) (by exact fun _ _ _ h => h) (Or.inl ⟨by rfl, ?_⟩) (by assumption) ?_
                        rotate_left
                        · intro w hSw; (try dsimp only at hSw); go_simp <;> with_reducible rfl
                        try simp only [Act.put, List.setIfInBounds_toArray, List.set_cons_zero, List.set_cons_succ]
                        refine wpAnyH_take (i := 11) (v := ?_) (by simp only [List.getElem?_toArray, List.getElem?_cons_succ, List.getElem?_cons_zero]; exact rfl) (by kernel_rfl) (by kernel_rfl) (by kernel_rfl) (by exact fun _ _ _ h => h) (Or.inl ⟨by rfl, ?_⟩) (by assumption) ?_
                        rotate_left
                        · intro w hSw; (try dsimp only at hSw); go_simp <;> with_reducible rfl
                        try simp only [Act.put, List.setIfInBounds_toArray, List.set_cons_zero, List.set_cons_succ]
                        refine wpAnyH_take (i := 12) (v := ?_) (by simp only [List.getElem?_toArray, List.getElem?_cons_succ, List.getElem?_cons_zero]; exact rfl) (by kernel_rfl) (by kernel_rfl) (by kernel_rfl) (by exact fun _ _ _ h => h) (Or.inl ⟨by rfl, ?_⟩) (by assumption) ?_
                        rotate_left
                        · intro w hSw; (try dsimp only at hSw); go_simp <;> with_reducible rfl
                        try simp only [Act.put, List.setIfInBounds_toArray, List.set_cons_zero, List.set_cons_succ]
                        refine wpAnyH_done (by kernel_rfl) ?_ _
                        rotate_left
                        clear hHeld
                        have f3 := HD.out.box.fz 3
                        have g3 := HD.out.c3
                        obtain ⟨_, t6, _⟩ := HIR.out _ HD.out
                        go_upto_region 36 with fail
                        clear f3 g3 t6 x4
                        have HD3 := Lib.hid (HD.out.set3 tr).drew
                        generalize (W1.setCell ⟨g, 3, none⟩ (.int .i64 tr)).drew = W3 at HD3 ⊢
                        clear HDA
                        have HIF : Hid (∀ U, RCS V g A3 n c3 nA n nc (Bo.nears x.N x.D L) bk tr fx 0 U → U.cell? ⟨b1, 4, none⟩ = some (.slice (some adB) x.k x.d) ∧ U.cell? ⟨(adB.add (j * 7)).block, (adB.add (j * 7)).off + 5, none⟩ = some (.int .i64 tf) ∧ U.cell? ⟨g, 4, none⟩ = some (.int .i64 fx)) := fun U hU => by
                          obtain ⟨ad', hA', hc⟩ := (HX2.out.w.at_.ts.below hU.bel).at_ HT.out
                          obtain rfl := Option.some.inj (HAB.out.symm.trans hA')
                          exact ⟨by rw [← HAB.out]; exact (HX2.out.w.below hU.bel).c4, by rw [← HTF.out]; exact hc.c5, hU.c4⟩
                        refine wp_region_held_drew (S := (fun U : World => U.cell? ⟨b1, 4, none⟩ = some (.slice (some adB) x.k x.d) ∧ U.cell? ⟨(adB.add (j * 7)).block, (adB.add (j * 7)).off + 5, none⟩ = some (.int .i64 tf) ∧ U.cell? ⟨g, 4, none⟩ = some (.int .i64 fx))) (by kernel_rfl) (by (try dsimp only); exact HIF.out _ HD3.out.drew) (fun hHeld => ?_)
                        refine wpAnyH_take (i := 0) (v := ?_) (by simp only [List.getElem?_toArray, List.getElem?_cons_zero]; exact rfl) (by kernel_rfl) (by kernel_rfl) (by kernel_rfl) (by exact fun _ _ _ h => h) (Or.inl ⟨by rfl, ?_⟩) (by assumption) ?_
                        rotate_left
                        · intro w hSw; (try dsimp only at hSw); go_simp <;> with_reducible rfl
                        try simp only [Act.put, List.setIfInBounds_toArray, List.set_cons_zero, List.set_cons_succ]
                        refine wpAnyH_take (i := 1) (v := ?_) (by simp only [List.getElem?_toArray, List.getElem?_cons_succ, List.getElem?_cons_zero]; exact rfl) (by kernel_rfl) (by kernel_rfl) (by kernel_rfl) (by exact fun _ _ _ h => h) (Or.inl ⟨by rfl, ?_⟩) (by assumption) ?_
                        rotate_left
                        · intro w hSw; (try dsimp only at hSw); go_simp <;> with_reducible rfl
                        try simp only [Act.put, List.setIfInBounds_toArray, List.set_cons_zero, List.set_cons_succ]
                        refine wpAnyH_take (i := 2) (v := ?_) (by simp only [List.getElem?_toArray, List.getElem?_cons_succ, List.getElem?_cons_zero]; exact rfl) (by kernel_rfl) (by kernel_rfl) (by kernel_rfl) (by exact fun _ _ _ h => h) (Or.inl ⟨by rfl, ?_⟩) (by assumption) ?_
                        rotate_left
                        · intro w hSw; (try dsimp only at hSw); go_simp <;> with_reducible rfl
                        try simp only [Act.put, List.setIfInBounds_toArray, List.set_cons_zero, List.set_cons_succ]
                        refine wpAnyH_take (i := 3) (v := ?_) (by simp only [List.getElem?_toArray, List.getElem?_cons_succ, List.getElem?_cons_zero]; exact rfl) (by kernel_rfl) (by kernel_rfl) (by kernel_rfl) (by exact fun _ _ _ h => h) (Or.inl ⟨by rfl, ?_⟩) (by assumption) ?_
                        rotate_left
                        · intro w hSw; (try dsimp only at hSw); go_simp <;> with_reducible rfl
                        try simp only [Act.put, List.setIfInBounds_toArray, List.set_cons_zero, List.set_cons_succ]
                        refine wpAnyH_take (i := 4) (v := ?_) (by simp only [List.getElem?_toArray, List.getElem?_cons_succ, List.getElem?_cons_zero]; exact rfl) (by kernel_rfl) (by kernel_rfl) (by kernel_rfl) (by exact fun _ _ _ h => h) (Or.inl ⟨by rfl, ?_⟩) (by assumption) ?_
                        rotate_left
                        · intro w hSw; (try dsimp only at hSw); go_simp <;> with_reducible rfl
                        try simp only [Act.put, List.setIfInBounds_toArray, List.set_cons_zero, List.set_cons_succ]
                        refine wpAnyH_take (i := 5) (v := ?_) (by simp only [List.getElem?_toArray, List.getElem?_cons_succ, List.getElem?_cons_zero]; exact rfl) (by kernel_rfl) (by kernel_rfl) (by kernel_rfl) (by exact fun _ _ _ h => h) (Or.inl ⟨by rfl, ?_⟩) (by assumption) ?_
                        rotate_left
                        · intro w hSw; (try dsimp only at hSw); go_simp <;> with_reducible rfl
                        try simp only [Act.put, List.setIfInBounds_toArray, List.set_cons_zero, List.set_cons_succ]
                        refine wpAnyH_take (i := 6) (v := ?_) (by simp only [List.getElem?_toArray, List.getElem?_cons_succ, List.getElem?_cons_zero]; exact rfl) (by kernel_rfl) (by kernel_rfl) (by kernel_rfl) (by exact fun _ _ _ h => h) (Or.inl ⟨by rfl, ?_⟩) (by assumption) ?_
                        rotate_left
                        · intro w hSw; (try dsimp only at hSw); go_simp <;> with_reducible rfl
                        try simp only [Act.put, List.setIfInBounds_toArray, List.set_cons_zero, List.set_cons_succ]
                        refine wpAnyH_take (i := 7) (v := ?_) (by simp only [List.getElem?_toArray, List.getElem?_cons_succ, List.getElem?_cons_zero]; exact rfl) (by kernel_rfl) (by kernel_rfl) (by kernel_rfl) (by exact fun _ _ _ h => h) (Or.inl ⟨by rfl, ?_⟩) (by assumption) ?_
                        rotate_left
                        · intro w hSw; (try dsimp only at hSw); go_simp <;> with_reducible rfl
                        try simp only [Act.put, List.setIfInBounds_toArray, List.set_cons_zero, List.set_cons_succ]
                        refine wpAnyH_take (i := 8) (v := ?_) (by simp only [List.getElem?_toArray, List.getElem?_cons_succ, List.getElem?_cons_zero]; exact rfl) (by kernel_rfl) (by kernel_rfl) (by kernel_rfl) (by exact fun _ _ _ h => h) (Or.inl ⟨by rfl, ?_⟩) (by assumption) ?_
                        rotate_left
                        · intro w hSw; (try dsimp only at hSw); go_simp <;> with_reducible rfl
                        try simp only [Act.put, List.setIfInBounds_toArray, List.set_cons_zero, List.set_cons_succ]
                        refine wpAnyH_take (i := 9) (v := ?_) (by simp only [List.getElem?_toArray, List.getElem?_cons_succ, List.getElem?_cons_zero]; exact rfl) (by kernel_rfl) (by kernel_rfl) (by kernel_rfl) (by exact fun _ _ _ h => h) (Or.inl ⟨by rfl, ?_⟩) (by assumption) ?_
                        rotate_left
                        · intro w hSw; (try dsimp only at hSw); go_simp <;> with_reducible rfl
                        try simp only [Act.put, List.setIfInBounds_toArray, List.set_cons_zero, List.set_cons_succ]
                        refine wpAnyH_take (i := 10) (v := ?_) (by simp only [List.getElem?_toArray, List.getElem?_cons_succ, List.getElem?_cons_zero]; exact rfl) (by kernel_rfl) (by kernel_rfl) (by kernel_rfl) (by exact fun _ _ _ h => h) (Or.inl ⟨by rfl, ?_⟩) (by assumption) ?_
                        rotate_left
                        · intro w hSw; (try dsimp only at hSw); go_simp <;> with_reducible rfl
                        try simp only [Act.put, List.setIfInBounds_toArray, List.set_cons_zero, List.set_cons_succ]
                        refine wpAnyH_take (i := 11) (v := ?_) (by simp only [List.getElem?_toArray, List.getElem?_cons_succ, List.getElem?_cons_zero]; exact rfl) (by kernel_rfl) (by kernel_rfl) (by kernel_rfl) (by exact fun _ _ _ h => h) (Or.inl ⟨by rfl, ?_⟩) (by assumption) ?_
                        rotate_left
                        · intro w hSw; (try dsimp only at hSw); go_simp <;> with_reducible rfl
                        try simp only [Act.put, List.setIfInBounds_toArray, List.set_cons_zero, List.set_cons_succ]
                        refine wpAnyH_take (i := 12) (v := ?_) (by simp only [List.getElem?_toArray, List.getElem?_cons_succ, List.getElem?_cons_zero]; exact rfl) (by kernel_rfl) (by kernel_rfl) (by kernel_rfl) (by exact fun _ _ _ h => h) (Or.inl ⟨by rfl, ?_⟩) (by assumption) ?_
                        rotate_left
                        · intro w hSw; (try dsimp only at hSw); go_simp <;> with_reducible rfl
                        try simp only [Act.put, List.setIfInBounds_toArray, List.set_cons_zero, List.set_cons_succ]
                        refine wpAnyH_done (by kernel_rfl) ?_ _
                        rotate_left
                        clear hHeld
                        go_wp2_with fail
                        go_roundg gj
                        case measure => omega
                        case rel => exact ⟨j + 1, _, tr, fx, rfl, by omega, by first | rfl | go_num, HRN, HFN, HD3.out.drew⟩
                    · have e1 : decide (tr < rt) = false := decide_eq_false hr1
                      have HRN : Hid (rt = Bo.lst ((x.ts.map Ld.T.rate).take (j + 1))) := by unfold Hid; rw [HRN0.out]; omega
                      clear hr1
                      by_cases hf1 : tf < fx
                      · have e2 : decide (tf < fx) = true := decide_eq_true hf1
                        have HFN : Hid (tf = Bo.lst ((x.ts.map Ld.T.fixed).take (j + 1))) := by unfold Hid; rw [HFN0.out]; omega
                        clear hf1
                        have HDA := HD
                        have x4 := HX4.out
                        go_upto_region 34 with fail
                        refine wp_region_held_drew (S := (fun U : World => U.cell? ⟨b1, 4, none⟩ = some (.slice (some adB) x.k x.d) ∧ U.cell? ⟨(adB.add (j * 7)).block, (adB.add (j * 7)).off + 6, none⟩ = some (.int .i64 tr) ∧ U.cell? ⟨g, 3, none⟩ = some (.int .i64 rt))) (by kernel_rfl) (by (try dsimp only); exact HIR.out _ HD.out.drew) (fun hHeld => ?_)
                        refine wpAnyH_take (i := 0) (v := ?_) (by simp only [List.getElem?_toArray, List.getElem?_cons_zero]; exact rfl) (by kernel_rfl) (by kernel_rfl) (by kernel_rfl) (by exact fun _ _ _ h => h) (Or.inl ⟨by rfl, ?_⟩) (by assumption) ?_
                        rotate_left
                        · intro w hSw; (try dsimp only at hSw); go_simp <;> with_reducible rfl
                        try simp only [Act.put, List.setIfInBounds_toArray, List.set_cons_zero, List.set_cons_succ]
                        refine wpAnyH_take (i := 1) (v := ?_) (by simp only [List.getElem?_toArray, List.getElem?_cons_succ, List.getElem?_cons_zero]; exact rfl) (by kernel_rfl) (by kernel_rfl) (by kernel_rfl) (by exact fun _ _ _ h => h) (Or.inl ⟨by rfl, ?_⟩) (by assumption) ?_
                        rotate_left
                        · intro w hSw; (try dsimp only at hSw); go_simp <;> with_reducible rfl
                        try simp only [Act.put, List.setIfInBounds_toArray, List.set_cons_zero, List.set_cons_succ]
                        refine wpAnyH_take (i := 2) (v := ?_) (by simp only [List.getElem?_toArray, List.getElem?_cons_succ, List.getElem?_cons_zero]; exact rfl) (by kernel_rfl) (by kernel_rfl) (by kernel_rfl) (by exact fun _ _ _ h => h) (Or.inl ⟨by rfl, ?_⟩) (by assumption) ?_
                        rotate_left
                        · intro w hSw; (try dsimp only at hSw); go_simp <;> with_reducible rfl
                        try simp only [Act.put, List.setIfInBounds_toArray, List.set_cons_zero, List.set_cons_succ]
                        refine wpAnyH_take (i := 3) (v := ?_) (by simp only [List.getElem?_toArray, List.getElem?_cons_succ, List.getElem?_cons_zero]; exact rfl) (by kernel_rfl) (by kernel_rfl) (by kernel_rfl) (by exact fun _ _ _ h => h) (Or.inl ⟨by rfl, ?_⟩) (by assumption) ?_
                        rotate_left
                        · intro w hSw; (try dsimp only at hSw); go_simp <;> with_reducible rfl
                        try simp only [Act.put, List.setIfInBounds_toArray, List.set_cons_zero, List.set_cons_succ]
                        refine wpAnyH_take (i := 4) (v := ?_) (by simp only [List.getElem?_toArray, List.getElem?_cons_succ, List.getElem?_cons_zero]; exact rfl) (by kernel_rfl) (by kernel_rfl) (by kernel_rfl) (by exact fun _ _ _ h => h) (Or.inl ⟨by rfl, ?_⟩) (by assumption) ?_
                        rotate_left
                        · intro w hSw; (try dsimp only at hSw); go_simp <;> with_reducible rfl
                        try simp only [Act.put, List.setIfInBounds_toArray, List.set_cons_zero, List.set_cons_succ]
                        refine wpAnyH_take (i := 5) (v := ?_) (by simp only [List.getElem?_toArray, List.getElem?_cons_succ, List.getElem?_cons_zero]; exact rfl) (by kernel_rfl) (by kernel_rfl) (by kernel_rfl) (by exact fun _ _ _ h => h) (Or.inl ⟨by rfl, ?_⟩) (by assumption) ?_
                        rotate_left
                        · intro w hSw; (try dsimp only at hSw); go_simp <;> with_reducible rfl
                        try simp only [Act.put, List.setIfInBounds_toArray, List.set_cons_zero, List.set_cons_succ]
                        refine wpAnyH_take (i := 6) (v := ?_) (by simp only [List.getElem?_toArray, List.getElem?_cons_succ, List.getElem?_cons_zero]; exact rfl) (by kernel_rfl) (by kernel_rfl) (by kernel_rfl) (by exact fun _ _ _ h => h) (Or.inl ⟨by rfl, ?_⟩) (by assumption) ?_
                        rotate_left
                        · intro w hSw; (try dsimp only at hSw); go_simp <;> with_reducible rfl
                        try simp only [Act.put, List.setIfInBounds_toArray, List.set_cons_zero, List.set_cons_succ]
                        refine wpAnyH_take (i := 7) (v := ?_) (by simp only [List.getElem?_toArray, List.getElem?_cons_succ, List.getElem?_cons_zero]; exact rfl) (by kernel_rfl) (by kernel_rfl) (by kernel_rfl) (by exact fun _ _ _ h => h) (Or.inl ⟨by rfl, ?_⟩) (by assumption) ?_
                        rotate_left
                        · intro w hSw; (try dsimp only at hSw); go_simp <;> with_reducible rfl
                        try simp only [Act.put, List.setIfInBounds_toArray, List.set_cons_zero, List.set_cons_succ]
                        refine wpAnyH_take (i := 8) (v := ?_) (by simp only [List.getElem?_toArray, List.getElem?_cons_succ, List.getElem?_cons_zero]; exact rfl) (by kernel_rfl) (by kernel_rfl) (by kernel_rfl) (by exact fun _ _ _ h => h) (Or.inl ⟨by rfl, ?_⟩) (by assumption) ?_
                        rotate_left
                        · intro w hSw; (try dsimp only at hSw); go_simp <;> with_reducible rfl
                        try simp only [Act.put, List.setIfInBounds_toArray, List.set_cons_zero, List.set_cons_succ]
                        refine wpAnyH_take (i := 9) (v := ?_) (by simp only [List.getElem?_toArray, List.getElem?_cons_succ, List.getElem?_cons_zero]; exact rfl) (by kernel_rfl) (by kernel_rfl) (by kernel_rfl) (by exact fun _ _ _ h => h) (Or.inl ⟨by rfl, ?_⟩) (by assumption) ?_
                        rotate_left
                        · intro w hSw; (try dsimp only at hSw); go_simp <;> with_reducible rfl
                        try simp only [Act.put, List.setIfInBounds_toArray, List.set_cons_zero, List.set_cons_succ]
                        refine wpAnyH_take (i := 10) (v := ?_) (by simp only [List.getElem?_toArray, List.getElem?_cons_succ, List.getElem?_cons_zero]; exact rfl) (by kernel_rfl) (by kernel_rfl) (by kernel_rfl) (by exact fun _ _ _ h => h) (Or.inl ⟨by rfl, ?_⟩) (by assumption) ?_
                        rotate_left
                        · intro w hSw; (try dsimp only at hSw); go_simp <;> with_reducible rfl
                        try simp only [Act.put, List.setIfInBounds_toArray, List.set_cons_zero, List.set_cons_succ]
                        refine wpAnyH_take (i := 11) (v := ?_) (by simp only [List.getElem?_toArray, List.getElem?_cons_succ, List.getElem?_cons_zero]; exact rfl) (by kernel_rfl) (by kernel_rfl) (by kernel_rfl) (by exact fun _ _ _ h => h) (Or.inl ⟨by rfl, ?_⟩) (by assumption) ?_
                        rotate_left
                        · intro w hSw; (try dsimp only at hSw); go_simp <;> with_reducible rfl
                        try simp only [Act.put, List.setIfInBounds_toArray, List.set_cons_zero, List.set_cons_succ]
                        refine wpAnyH_take (i := 12) (v := ?_) (by simp only [List.getElem?_toArray, List.getElem?_cons_succ, List.getElem?_cons_zero]; exact rfl) (by kernel_rfl) (by kernel_rfl) (by kernel_rfl) (by exact fun _ _ _ h => h) (Or.inl ⟨by rfl, ?_⟩) (by assumption) ?_
                        rotate_left
                        · intro w hSw; (try dsimp only at hSw); go_simp <;> with_reducible rfl
                        try simp only [Act.put, List.setIfInBounds_toArray, List.set_cons_zero, List.set_cons_succ]
                        refine wpAnyH_done (by kernel_rfl) ?_ _
                        rotate_left
                        clear hHeld
                        go_upto_region 36 with fail
                        clear x4
                        have HD3 := Lib.hid HD.out.drew
                        generalize W1.drew = W3 at HD3 ⊢
                        clear HDA
                        have HIF : Hid (∀ U, RCS V g A3 n c3 nA n nc (Bo.nears x.N x.D L) bk rt fx 0 U → U.cell? ⟨b1, 4, none⟩ = some (.slice (some adB) x.k x.d) ∧ U.cell? ⟨(adB.add (j * 7)).block, (adB.add (j * 7)).off + 5, none⟩ = some (.int .i64 tf) ∧ U.cell? ⟨g, 4, none⟩ = some (.int .i64 fx)) := fun U hU => by
                          obtain ⟨ad', hA', hc⟩ := (HX2.out.w.at_.ts.below hU.bel).at_ HT.out
                          obtain rfl := Option.some.inj (HAB.out.symm.trans hA')
                          exact ⟨by rw [← HAB.out]; exact (HX2.out.w.below hU.bel).c4, by rw [← HTF.out]; exact hc.c5, hU.c4⟩
                        refine wp_region_held_drew (S := (fun U : World => U.cell? ⟨b1, 4, none⟩ = some (.slice (some adB) x.k x.d) ∧ U.cell? ⟨(adB.add (j * 7)).block, (adB.add (j * 7)).off + 5, none⟩ = some (.int .i64 tf) ∧ U.cell? ⟨g, 4, none⟩ = some (.int .i64 fx))) (by kernel_rfl) (by (try dsimp only); exact HIF.out _ HD3.out.drew) (fun hHeld => ?_)
                        refine wpAnyH_take (i := 0) (v := ?_) (by simp only [List.getElem?_toArray, List.getElem?_cons_zero]; exact rfl) (by kernel_rfl) (by kernel_rfl) (by kernel_rfl) (by exact fun _ _ _ h => h) (Or.inl ⟨by rfl, ?_⟩) (by assumption) ?_
                        rotate_left
                        · intro w hSw; (try dsimp only at hSw); go_simp <;> with_reducible rfl
                        try simp only [Act.put, List.setIfInBounds_toArray, List.set_cons_zero, List.set_cons_succ]
                        refine wpAnyH_take (i := 1) (v := ?_) (by simp only [List.getElem?_toArray, List.getElem?_cons_succ, List.getElem?_cons_zero]; exact rfl) (by kernel_rfl) (by kernel_rfl) (by kernel_rfl) (by exact fun _ _ _ h => h) (Or.inl ⟨by rfl, ?_⟩) (by assumption) ?_
                        rotate_left
                        · intro w hSw; (try dsimp only at hSw); go_simp <;> with_reducible rfl
                        try simp only [Act.put, List.setIfInBounds_toArray, List.set_cons_zero, List.set_cons_succ]
                        refine wpAnyH_take (i := 2) (v := ?_) (by simp only [List.getElem?_toArray, List.getElem?_cons_succ, List.getElem?_cons_zero]; exact rfl) (by kernel_rfl) (by kernel_rfl) (by kernel_rfl) (by exact fun _ _ _ h => h) (Or.inl ⟨by rfl, ?_⟩) (by assumption) ?_
                        rotate_left
                        · intro w hSw; (try dsimp only at hSw); go_simp <;> with_reducible rfl
                        try simp only [Act.put, List.setIfInBounds_toArray, List.set_cons_zero, List.set_cons_succ]
                        refine wpAnyH_take (i := 3) (v := ?_) (by simp only [List.getElem?_toArray, List.getElem?_cons_succ, List.getElem?_cons_zero]; exact rfl) (by kernel_rfl) (by kernel_rfl) (by kernel_rfl) (by exact fun _ _ _ h => h) (Or.inl ⟨by rfl, ?_⟩) (by assumption) ?_
                        rotate_left
                        · intro w hSw; (try dsimp only at hSw); go_simp <;> with_reducible rfl
                        try simp only [Act.put, List.setIfInBounds_toArray, List.set_cons_zero, List.set_cons_succ]
                        refine wpAnyH_take (i := 4) (v := ?_) (by simp only [List.getElem?_toArray, List.getElem?_cons_succ, List.getElem?_cons_zero]; exact rfl) (by kernel_rfl) (by kernel_rfl) (by kernel_rfl) (by exact fun _ _ _ h => h) (Or.inl ⟨by rfl, ?_⟩) (by assumption) ?_
                        rotate_left
                        · intro w hSw; (try dsimp only at hSw); go_simp <;> with_reducible rfl
                        try simp only [Act.put, List.setIfInBounds_toArray, List.set_cons_zero, List.set_cons_succ]
                        refine wpAnyH_take (i := 5) (v := ?_) (by simp only [List.getElem?_toArray, List.getElem?_cons_succ, List.getElem?_cons_zero]; exact rfl) (by kernel_rfl) (by kernel_rfl) (by kernel_rfl) (by exact fun _ _ _ h => h) (Or.inl ⟨by rfl, ?_⟩) (by assumption) ?_
                        rotate_left
                        · intro w hSw; (try dsimp only at hSw); go_simp <;> with_reducible rfl
                        try simp only [Act.put, List.setIfInBounds_toArray, List.set_cons_zero, List.set_cons_succ]
                        refine wpAnyH_take (i := 6) (v := ?_) (by simp only [List.getElem?_toArray, List.getElem?_cons_succ, List.getElem?_cons_zero]; exact rfl) (by kernel_rfl) (by kernel_rfl) (by kernel_rfl) (by exact fun _ _ _ h => h) (Or.inl ⟨by rfl, ?_⟩) (by assumption) ?_
                        rotate_left
                        · intro w hSw; (try dsimp only at hSw); go_simp <;> with_reducible rfl
                        try simp only [Act.put, List.setIfInBounds_toArray, List.set_cons_zero, List.set_cons_succ]
                        refine wpAnyH_take (i := 7) (v := ?_) (by simp only [List.getElem?_toArray, List.getElem?_cons_succ, List.getElem?_cons_zero]; exact rfl) (by kernel_rfl) (by kernel_rfl) (by kernel_rfl) (by exact fun _ _ _ h => h) (Or.inl ⟨by rfl, ?_⟩) (by assumption) ?_
                        rotate_left
                        · intro w hSw; (try dsimp only at hSw); go_simp <;> with_reducible rfl
                        try simp only [Act.put, List.setIfInBounds_toArray, List.set_cons_zero, List.set_cons_succ]
                        refine wpAnyH_take (i := 8) (v := ?_) (by simp only [List.getElem?_toArray, List.getElem?_cons_succ, List.getElem?_cons_zero]; exact rfl) (by kernel_rfl) (by kernel_rfl) (by kernel_rfl) (by exact fun _ _ _ h => h) (Or.inl ⟨by rfl, ?_⟩) (by assumption) ?_
                        rotate_left
                        · intro w hSw; (try dsimp only at hSw); go_simp <;> with_reducible rfl
                        try simp only [Act.put, List.setIfInBounds_toArray, List.set_cons_zero, List.set_cons_succ]
                        refine wpAnyH_take (i := 9) (v := ?_) (by simp only [List.getElem?_toArray, List.getElem?_cons_succ, List.getElem?_cons_zero]; exact rfl) (by kernel_rfl) (by kernel_rfl) (by kernel_rfl) (by exact fun _ _ _ h => h) (Or.inl ⟨by rfl, ?_⟩) (by assumption) ?_
                        rotate_left
                        · intro w hSw; (try dsimp only at hSw); go_simp <;> with_reducible rfl
                        try simp only [Act.put, List.setIfInBounds_toArray, List.set_cons_zero, List.set_cons_succ]
                        refine wpAnyH_take (i := 10) (v := ?_) (by simp only [List.getElem?_toArray, List.getElem?_cons_succ, List.getElem?_cons_zero]; exact rfl) (by kernel_rfl) (by kernel_rfl) (by kernel_rfl) (by exact fun _ _ _ h => h) (Or.inl ⟨by rfl, ?_⟩) (by assumption) ?_
                        rotate_left
                        · intro w hSw; (try dsimp only at hSw); go_simp <;> with_reducible rfl
                        try simp only [Act.put, List.setIfInBounds_toArray, List.set_cons_zero, List.set_cons_succ]
                        refine wpAnyH_take (i := 11) (v := ?_) (by simp only [List.getElem?_toArray, List.getElem?_cons_succ, List.getElem?_cons_zero]; exact rfl) (by kernel_rfl) (by kernel_rfl) (by kernel_rfl) (by exact fun _ _ _ h => h) (Or.inl ⟨by rfl, ?_⟩) (by assumption) ?_
                        rotate_left
                        · intro w hSw; (try dsimp only at hSw); go_simp <;> with_reducible rfl
                        try simp only [Act.put, List.setIfInBounds_toArray, List.set_cons_zero, List.set_cons_succ]
                        refine wpAnyH_take (i := 12) (v := ?_) (by simp only [List.getElem?_toArray, List.getElem?_cons_succ, List.getElem?_cons_zero]; exact rfl) (by kernel_rfl) (by kernel_rfl) (by kernel_rfl) (by exact fun _ _ _ h => h) (Or.inl ⟨by rfl, ?_⟩) (by assumption) ?_
                        rotate_left
                        · intro w hSw; (try dsimp only at hSw); go_simp <;> with_reducible rfl
                        try simp only [Act.put, List.setIfInBounds_toArray, List.set_cons_zero, List.set_cons_succ]
                        refine wpAnyH_done (by kernel_rfl) ?_ _
                        rotate_left
                        clear hHeld
                        have f4 := HD3.out.box.fz 4
                        have g4 := HD3.out.c4
                        obtain ⟨x4, t5, _⟩ := HIF.out _ HD3.out
                        go_wp2_with fail
                        go_roundg gj
                        case measure => omega
                        case rel => exact ⟨j + 1, _, rt, tf, rfl, by omega, by first | rfl | go_num, HRN, HFN, (HD3.out.set4 tf).drew⟩
                      · have e2 : decide (tf < fx) = false := decide_eq_false hf1
                        have HFN : Hid (fx = Bo.lst ((x.ts.map Ld.T.fixed).take (j + 1))) := by unfold Hid; rw [HFN0.out]; omega
                        clear hf1
                        have HDA := HD
                        have x4 := HX4.out
                        go_upto_region 34 with fail
                        refine wp_region_held_drew (S := (fun U : World => U.cell? ⟨b1, 4, none⟩ = some (.slice (some adB) x.k x.d) ∧ U.cell? ⟨(adB.add (j * 7)).block, (adB.add (j * 7)).off + 6, none⟩ = some (.int .i64 tr) ∧ U.cell? ⟨g, 3, none⟩ = some (.int .i64 rt))) (by kernel_rfl) (by (try dsimp only); exact HIR.out _ HD.out.drew) (fun hHeld => ?_)
                        refine wpAnyH_take (i := 0) (v := ?_) (by simp only [List.getElem?_toArray, List.getElem?_cons_zero]; exact rfl) (by kernel_rfl) (by kernel_rfl) (by kernel_rfl) (by exact fun _ _ _ h => h) (Or.inl ⟨by rfl, ?_⟩) (by assumption) ?_
                        rotate_left
                        · intro w hSw; (try dsimp only at hSw); go_simp <;> with_reducible rfl
                        try simp only [Act.put, List.setIfInBounds_toArray, List.set_cons_zero, List.set_cons_succ]
                        refine wpAnyH_take (i := 1) (v := ?_) (by simp only [List.getElem?_toArray, List.getElem?_cons_succ, List.getElem?_cons_zero]; exact rfl) (by kernel_rfl) (by kernel_rfl) (by kernel_rfl) (by exact fun _ _ _ h => h) (Or.inl ⟨by rfl, ?_⟩) (by assumption) ?_
                        rotate_left
                        · intro w hSw; (try dsimp only at hSw); go_simp <;> with_reducible rfl
                        try simp only [Act.put, List.setIfInBounds_toArray, List.set_cons_zero, List.set_cons_succ]
                        refine wpAnyH_take (i := 2) (v := ?_) (by simp only [List.getElem?_toArray, List.getElem?_cons_succ, List.getElem?_cons_zero]; exact rfl) (by kernel_rfl) (by kernel_rfl) (by kernel_rfl) (by exact fun _ _ _ h => h) (Or.inl ⟨by rfl, ?_⟩) (by assumption) ?_
                        rotate_left
                        · intro w hSw; (try dsimp only at hSw); go_simp <;> with_reducible rfl
                        try simp only [Act.put, List.setIfInBounds_toArray, List.set_cons_zero, List.set_cons_succ]
                        refine wpAnyH_take (i := 3) (v := ?_) (by simp only [List.getElem?_toArray, List.getElem?_cons_succ, List.getElem?_cons_zero]; exact rfl) (by kernel_rfl) (by kernel_rfl) (by kernel_rfl) (by exact fun _ _ _ h => h) (Or.inl ⟨by rfl, ?_⟩) (by assumption) ?_
                        rotate_left
                        · intro w hSw; (try dsimp only at hSw); go_simp <;> with_reducible rfl
                        try simp only [Act.put, List.setIfInBounds_toArray, List.set_cons_zero, List.set_cons_succ]
                        refine wpAnyH_take (i := 4) (v := ?_) (by simp only [List.getElem?_toArray, List.getElem?_cons_succ, List.getElem?_cons_zero]; exact rfl) (by kernel_rfl) (by kernel_rfl) (by kernel_rfl) (by exact fun _ _ _ h => h) (Or.inl ⟨by rfl, ?_⟩) (by assumption) ?_
                        rotate_left
                        · intro w hSw; (try dsimp only at hSw); go_simp <;> with_reducible rfl
                        try simp only [Act.put, List.setIfInBounds_toArray, List.set_cons_zero, List.set_cons_succ]
                        refine wpAnyH_take (i := 5) (v := ?_) (by simp only [List.getElem?_toArray, List.getElem?_cons_succ, List.getElem?_cons_zero]; exact rfl) (by kernel_rfl) (by kernel_rfl) (by kernel_rfl) (by exact fun _ _ _ h => h) (Or.inl ⟨by rfl, ?_⟩) (by assumption) ?_
                        rotate_left
                        · intro w hSw; (try dsimp only at hSw); go_simp <;> with_reducible rfl
                        try simp only [Act.put, List.setIfInBounds_toArray, List.set_cons_zero, List.set_cons_succ]
                        refine wpAnyH_take (i := 6) (v := ?_) (by simp only [List.getElem?_toArray, List.getElem?_cons_succ, List.getElem?_cons_zero]; exact rfl) (by kernel_rfl) (by kernel_rfl) (by kernel_rfl) (by exact fun _ _ _ h => h) (Or.inl ⟨by rfl, ?_⟩) (by assumption) ?_
                        rotate_left
                        · intro w hSw; (try dsimp only at hSw); go_simp <;> with_reducible rfl
                        try simp only [Act.put, List.setIfInBounds_toArray, List.set_cons_zero, List.set_cons_succ]
                        refine wpAnyH_take (i := 7) (v := ?_) (by simp only [List.getElem?_toArray, List.getElem?_cons_succ, List.getElem?_cons_zero]; exact rfl) (by kernel_rfl) (by kernel_rfl) (by kernel_rfl) (by exact fun _ _ _ h => h) (Or.inl ⟨by rfl, ?_⟩) (by assumption) ?_
                        rotate_left
                        · intro w hSw; (try dsimp only at hSw); go_simp <;> with_reducible rfl
                        try simp only [Act.put, List.setIfInBounds_toArray, List.set_cons_zero, List.set_cons_succ]
                        refine wpAnyH_take (i := 8) (v := ?_) (by simp only [List.getElem?_toArray, List.getElem?_cons_succ, List.getElem?_cons_zero]; exact rfl) (by kernel_rfl) (by kernel_rfl) (by kernel_rfl) (by exact fun _ _ _ h => h) (Or.inl ⟨by rfl, ?_⟩) (by assumption) ?_
                        rotate_left
                        · intro w hSw; (try dsimp only at hSw); go_simp <;> with_reducible rfl
                        try simp only [Act.put, List.setIfInBounds_toArray, List.set_cons_zero, List.set_cons_succ]
                        refine wpAnyH_take (i := 9) (v := ?_) (by simp only [List.getElem?_toArray, List.getElem?_cons_succ, List.getElem?_cons_zero]; exact rfl) (by kernel_rfl) (by kernel_rfl) (by kernel_rfl) (by exact fun _ _ _ h => h) (Or.inl ⟨by rfl, ?_⟩) (by assumption) ?_
                        rotate_left
                        · intro w hSw; (try dsimp only at hSw); go_simp <;> with_reducible rfl
                        try simp only [Act.put, List.setIfInBounds_toArray, List.set_cons_zero, List.set_cons_succ]
                        refine wpAnyH_take (i := 10) (v := ?_) (by simp only [List.getElem?_toArray, List.getElem?_cons_succ, List.getElem?_cons_zero]; exact rfl) (by kernel_rfl) (by kernel_rfl) (by kernel_rfl) (by exact fun _ _ _ h => h) (Or.inl ⟨by rfl, ?_⟩) (by assumption) ?_
                        rotate_left
                        · intro w hSw; (try dsimp only at hSw); go_simp <;> with_reducible rfl
                        try simp only [Act.put, List.setIfInBounds_toArray, List.set_cons_zero, List.set_cons_succ]
                        refine wpAnyH_take (i := 11) (v := ?_) (by simp only [List.getElem?_toArray, List.getElem?_cons_succ, List.getElem?_cons_zero]; exact rfl) (by kernel_rfl) (by kernel_rfl) (by kernel_rfl) (by exact fun _ _ _ h => h) (Or.inl ⟨by rfl, ?_⟩) (by assumption) ?_
                        rotate_left
                        · intro w hSw; (try dsimp only at hSw); go_simp <;> with_reducible rfl
                        try simp only [Act.put, List.setIfInBounds_toArray, List.set_cons_zero, List.set_cons_succ]
                        refine wpAnyH_take (i := 12) (v := ?_) (by simp only [List.getElem?_toArray, List.getElem?_cons_succ, List.getElem?_cons_zero]; exact rfl) (by kernel_rfl) (by kernel_rfl) (by kernel_rfl) (by exact fun _ _ _ h => h) (Or.inl ⟨by rfl, ?_⟩) (by assumption) ?_
                        rotate_left
                        · intro w hSw; (try dsimp only at hSw); go_simp <;> with_reducible rfl
                        try simp only [Act.put, List.setIfInBounds_toArray, List.set_cons_zero, List.set_cons_succ]
                        refine wpAnyH_done (by kernel_rfl) ?_ _
                        rotate_left
                        clear hHeld
                        go_upto_region 36 with fail
                        clear x4
                        have HD3 := Lib.hid HD.out.drew
                        generalize W1.drew = W3 at HD3 ⊢
                        clear HDA
                        have HIF : Hid (∀ U, RCS V g A3 n c3 nA n nc (Bo.nears x.N x.D L) bk rt fx 0 U → U.cell? ⟨b1, 4, none⟩ = some (.slice (some adB) x.k x.d) ∧ U.cell? ⟨(adB.add (j * 7)).block, (adB.add (j * 7)).off + 5, none⟩ = some (.int .i64 tf) ∧ U.cell? ⟨g, 4, none⟩ = some (.int .i64 fx)) := fun U hU => by
                          obtain ⟨ad', hA', hc⟩ := (HX2.out.w.at_.ts.below hU.bel).at_ HT.out
                          obtain rfl := Option.some.inj (HAB.out.symm.trans hA')
                          exact ⟨by rw [← HAB.out]; exact (HX2.out.w.below hU.bel).c4, by rw [← HTF.out]; exact hc.c5, hU.c4⟩
                        refine wp_region_held_drew (S := (fun U : World => U.cell? ⟨b1, 4, none⟩ = some (.slice (some adB) x.k x.d) ∧ U.cell? ⟨(adB.add (j * 7)).block, (adB.add (j * 7)).off + 5, none⟩ = some (.int .i64 tf) ∧ U.cell? ⟨g, 4, none⟩ = some (.int .i64 fx))) (by kernel_rfl) (by (try dsimp only); exact HIF.out _ HD3.out.drew) (fun hHeld => ?_)
                        refine wpAnyH_take (i := 0) (v := ?_) (by simp only [List.getElem?_toArray, List.getElem?_cons_zero]; exact rfl) (by kernel_rfl) (by kernel_rfl) (by kernel_rfl) (by exact fun _ _ _ h => h) (Or.inl ⟨by rfl, ?_⟩) (by assumption) ?_
                        rotate_left
                        · intro w hSw; (try dsimp only at hSw); go_simp <;> with_reducible rfl
                        try simp only [Act.put, List.setIfInBounds_toArray, List.set_cons_zero, List.set_cons_succ]
                        refine wpAnyH_take (i := 1) (v := ?_) (by simp only [List.getElem?_toArray, List.getElem?_cons_succ, List.getElem?_cons_zero]; exact rfl) (by kernel_rfl) (by kernel_rfl) (by kernel_rfl) (by exact fun _ _ _ h => h) (Or.inl ⟨by rfl, ?_⟩) (by assumption) ?_
                        rotate_left
                        · intro w hSw; (try dsimp only at hSw); go_simp <;> with_reducible rfl
                        try simp only [Act.put, List.setIfInBounds_toArray, List.set_cons_zero, List.set_cons_succ]
                        refine wpAnyH_take (i := 2) (v := ?_) (by simp only [List.getElem?_toArray, List.getElem?_cons_succ, List.getElem?_cons_zero]; exact rfl) (by kernel_rfl) (by kernel_rfl) (by kernel_rfl) (by exact fun _ _ _ h => h) (Or.inl ⟨by rfl, ?_⟩) (by assumption) ?_
                        rotate_left
                        · intro w hSw; (try dsimp only at hSw); go_simp <;> with_reducible rfl
                        try simp only [Act.put, List.setIfInBounds_toArray, List.set_cons_zero, List.set_cons_succ]
                        refine wpAnyH_take (i := 3) (v := ?_) (by simp only [List.getElem?_toArray, List.getElem?_cons_succ, List.getElem?_cons_zero]; exact rfl) (by kernel_rfl) (by kernel_rfl) (by kernel_rfl) (by exact fun _ _ _ h => h) (Or.inl ⟨by rfl, ?_⟩) (by assumption) ?_
                        rotate_left
                        · intro w hSw; (try dsimp only at hSw); go_simp <;> with_reducible rfl
                        try simp only [Act.put, List.setIfInBounds_toArray, List.set_cons_zero, List.set_cons_succ]
                        refine wpAnyH_take (i := 4) (v := ?_) (by simp only [List.getElem?_toArray, List.getElem?_cons_succ, List.getElem?_cons_zero]; exact rfl) (by kernel_rfl) (by kernel_rfl) (by kernel_rfl) (by exact fun _ _ _ h => h) (Or.inl ⟨by rfl, ?_⟩) (by assumption) ?_
                        rotate_left
                        · intro w hSw; (try dsimp only at hSw); go_simp <;> with_reducible rfl
                        try simp only [Act.put, List.setIfInBounds_toArray, List.set_cons_zero, List.set_cons_succ]
                        refine wpAnyH_take (i := 5) (v := ?_) (by simp only [List.getElem?_toArray, List.getElem?_cons_succ, List.getElem?_cons_zero]; exact rfl) (by kernel_rfl) (by kernel_rfl) (by kernel_rfl) (by exact fun _ _ _ h => h) (Or.inl ⟨by rfl, ?_⟩) (by assumption) ?_
                        rotate_left
                        · intro w hSw; (try dsimp only at hSw); go_simp <;> with_reducible rfl
                        try simp only [Act.put, List.setIfInBounds_toArray, List.set_cons_zero, List.set_cons_succ]
                        refine wpAnyH_take (i := 6) (v := ?_) (by simp only [List.getElem?_toArray, List.getElem?_cons_succ, List.getElem?_cons_zero]; exact rfl) (by kernel_rfl) (by kernel_rfl) (by kernel_rfl) (by exact fun _ _ _ h => h) (Or.inl ⟨by rfl, ?_⟩) (by assumption) ?_
                        rotate_left
                        · intro w hSw; (try dsimp only at hSw); go_simp <;> with_reducible rfl
                        try simp only [Act.put, List.setIfInBounds_toArray, List.set_cons_zero, List.set_cons_succ]
                        refine wpAnyH_take (i := 7) (v := ?_) (by simp only [List.getElem?_toArray, List.getElem?_cons_succ, List.getElem?_cons_zero]; exact rfl) (by kernel_rfl) (by kernel_rfl) (by kernel_rfl) (by exact fun _ _ _ h => h) (Or.inl ⟨by rfl, ?_⟩) (by assumption) ?_
                        rotate_left
                        · intro w hSw; (try dsimp only at hSw); go_simp <;> with_reducible rfl
                        try simp only [Act.put, List.setIfInBounds_toArray, List.set_cons_zero, List.set_cons_succ]
                        refine wpAnyH_take (i := 8) (v := ?_) (by simp only [List.getElem?_toArray, List.getElem?_cons_succ, List.getElem?_cons_zero]; exact rfl) (by kernel_rfl) (by kernel_rfl) (by kernel_rfl) (by exact fun _ _ _ h => h) (Or.inl ⟨by rfl, ?_⟩) (by assumption) ?_
                        rotate_left
                        · intro w hSw; (try dsimp only at hSw); go_simp <;> with_reducible rfl
                        try simp only [Act.put, List.setIfInBounds_toArray, List.set_cons_zero, List.set_cons_succ]
                        refine wpAnyH_take (i := 9) (v := ?_) (by simp only [List.getElem?_toArray, List.getElem?_cons_succ, List.getElem?_cons_zero]; exact rfl) (by kernel_rfl) (by kernel_rfl) (by kernel_rfl) (by exact fun _ _ _ h => h) (Or.inl ⟨by rfl, ?_⟩) (by assumption) ?_
                        rotate_left
                        · intro w hSw; (try dsimp only at hSw); go_simp <;> with_reducible rfl
                        try simp only [Act.put, List.setIfInBounds_toArray, List.set_cons_zero, List.set_cons_succ]
                        refine wpAnyH_take (i := 10) (v := ?_) (by simp only [List.getElem?_toArray, List.getElem?_cons_succ, List.getElem?_cons_zero]; exact rfl) (by kernel_rfl) (by kernel_rfl) (by kernel_rfl) (by exact fun _ _ _ h => h) (Or.inl ⟨by rfl, ?_⟩) (by assumption) ?_
                        rotate_left
                        · intro w hSw; (try dsimp only at hSw); go_simp <;> with_reducible rfl
                        try simp only [Act.put, List.setIfInBounds_toArray, List.set_cons_zero, List.set_cons_succ]
                        refine wpAnyH_take (i := 11) (v := ?_) (by simp only [List.getElem?_toArray, List.getElem?_cons_succ, List.getElem?_cons_zero]; exact rfl) (by kernel_rfl) (by kernel_rfl) (by kernel_rfl) (by exact fun _ _ _ h => h) (Or.inl ⟨by rfl, ?_⟩) (by assumption) ?_
                        rotate_left
                        · intro w hSw; (try dsimp only at hSw); go_simp <;> with_reducible rfl
                        try simp only [Act.put, List.setIfInBounds_toArray, List.set_cons_zero, List.set_cons_succ]
                        refine wpAnyH_take (i := 12) (v := ?_) (by simp only [List.getElem?_toArray, List.getElem?_cons_succ, List.getElem?_cons_zero]; exact rfl) (by kernel_rfl) (by kernel_rfl) (by kernel_rfl) (by exact fun _ _ _ h => h) (Or.inl ⟨by rfl, ?_⟩) (by assumption) ?_
                        rotate_left
                        · intro w hSw; (try dsimp only at hSw); go_simp <;> with_reducible rfl
                        try simp only [Act.put, List.setIfInBounds_toArray, List.set_cons_zero, List.set_cons_succ]
                        refine wpAnyH_done (by kernel_rfl) ?_ _
                        rotate_left
                        clear hHeld
                        go_wp2_with fail
                        go_roundg gj
                        case measure => omega
                        case rel => exact ⟨j + 1, _, rt, fx, rfl, by omega, by first | rfl | go_num, HRN, HFN, HD3.out.drew⟩
                · obtain rfl : j = x.k := by omega
                  have HRT2 : Hid (Bo.rateS x.ts = rt) := by unfold Hid Bo.rateS; rw [HRT.out, List.take_of_length_le (by rw [List.length_map, HTL.out]; exact Nat.le_refl _)]
                  have HFX2 : Hid (Bo.fixedS x.ts = fx) := by unfold Hid Bo.fixedS; rw [HFX.out, List.take_of_length_le (by rw [List.length_map, HTL.out]; exact Nat.le_refl _)]
                  rw [HBK2.out] at HBB
                  rw [HRT2.out] at HRB
                  rw [HFX2.out] at HFB
                  have hs := Bo.sum_le 1000000 _ HNB.out
                  rw [← HAL2.out, HNN.out] at hs
                  obtain ⟨q1, hq1⟩ : ∃ z, al + bk = z := ⟨_, rfl⟩
                  obtain ⟨q2, hq2⟩ : ∃ z, rt * q1 = z := ⟨_, rfl⟩
                  obtain ⟨q3, hq3⟩ : ∃ z, fx + q2 = z := ⟨_, rfl⟩
                  have hq10 : 0 ≤ q1 ∧ q1 ≤ 20000000 := by have := HBB.out; omega
                  have hm := (small_mul HRB.out.1 HRB.out.2 hq10.1 hq10.2).2
                  rw [hq2] at hm
                  have wa : IntKind.i64.wrap (al + bk) = q1 := by rw [hq1]; exact IntWalk.i64_in _ (by omega)
                  have wb : IntKind.i64.wrap (rt * q1) = q2 := by rw [hq2]; exact IntWalk.i64_in _ (by omega)
                  have wc : IntKind.i64.wrap (fx + q2) = q3 := by rw [hq3]; exact IntWalk.i64_in _ (by have := HFB.out; omega)
                  have HRES : Hid (r = ((⟨S, Bo.nears x.N x.D L, bk, rt, fx, q3⟩ : Bo.C), 0)) := by
                    unfold Hid
                    rw [HE.out]
                    unfold Bo.certOf
                    rw [HIDS.out, HBK2.out, HRT2.out, HFX2.out]
                    unfold Bo.worth
                    rw [← HAL2.out, hq1, hq2, hq3]
                  have hgb : g ≠ b2 := fun e => Nat.lt_irrefl _ (Nat.lt_of_lt_of_le HBS2.out (e ▸ HD.out.hg))
                  have HXZ := Lib.hid (HX2.out.q.below HD.out.bel)
                  clear hs hq1 hq2 hq3 hq10 hm hjg hlj
                  have y0 := HD.out.c0
                  have y1 := HD.out.c1
                  have y2 := HD.out.c2
                  have y3 := HD.out.c3
                  have y4 := HD.out.c4
                  have y5 := HD.out.c5
                  have p5 := HD.out.box.fz 5
                  have x4 := (HX2.out.w.below HD.out.bel).c4
                  have z0 := HXZ.out.cell 0 _ rfl
                  have f0 := HXZ.out.fz 0
                  have z1 := HXZ.out.cell 1 _ rfl
                  have f1 := HXZ.out.fz 1
                  have z2 := HXZ.out.cell 2 _ rfl
                  have f2 := HXZ.out.fz 2
                  have z3 := HXZ.out.cell 3 _ rfl
                  have f3 := HXZ.out.fz 3
                  have z4 := HXZ.out.cell 4 _ rfl
                  have f4 := HXZ.out.fz 4
                  have z5 := HXZ.out.cell 5 _ rfl
                  have f5 := HXZ.out.fz 5
                  go_wp2
                  have hq : Box (W1.setCell ⟨g, 5, none⟩ (.int .i64 q3)) b2 #[.slice none 0 0, .slice none 0 0, .int .i64 0, .int .i64 0, .int .i64 0, .int .i64 0] 37 := (Go.Deep.blk_setCell_other W1 ⟨g, 5, none⟩ _ b2 (Ne.symm hgb)).trans HXZ.out
                  exact bodyPost_ret (results_rcert (v := .int .i64 0) rfl _ (rcert_set hq _ _ _ _ _ _) rfl rfl rfl) rfl (by rw [HRES.out]; exact RCS.done HD.out HIS.out HNA.out HBV.out HB2.out HBS2.out hn2 HSN.out HNN.out rfl)
end Go.Proofs.Ytbacakblboodeaa
