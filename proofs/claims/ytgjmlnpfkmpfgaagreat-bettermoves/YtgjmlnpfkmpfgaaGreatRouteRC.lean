/- The document's answer for routes: Run. -/
import Derived.Test.YtgjmlnpfkmpfgaaGreatRouteRs
import Derived.Test.YtgjmlnpfkmpfgaaGreatMaths
import Derived.Laws.ResultCell
import Derived.BigRegion
import Derived.RegionTactic
namespace Go.Proofs.YtgjmlnpfkmpfgaaGreat
open Go.RowKit
set_option linter.unusedVariables false
set_option maxRecDepth 100000

theorem und_dtrip : Tryz.prog.underlying 87 = some (.struct ((match Tryz.prog.underlying 87 with | some (.struct fs) => fs | _ => #[]))) := by kernel_rfl
theorem size_dtrip : (Tryz.prog.info? 87).map (·.size) = some 4 := by kernel_rfl
theorem load_dtrip {W : World} {b : Nat} {cs : Array Value} (h : Box W b cs 87) (hs : cs.size = 4) : (loadVar 87 ⟨b, 0, none⟩).run Tryz.prog W = .ok (.agg cs) W :=
  run_loadVar_row W b _ _ cs (0, 0) _ h und_dtrip rfl (by rw [hs]; exact size_dtrip)
theorem results_dtrip {fn : Func} {p u : Tmp} (h : fn.results = #[.cell p 87, .tmp u]) (tmps : Array Value) {W : World} {b : Nat} {cs : Array Value} (hb : Box W b cs 87) (hs : cs.size = 4) (hp : tmps.getD p undef = .pointer (some ⟨b, 0, none⟩)) {v : Value} (hv : tmps.getD u undef = v) :
    (results fn tmps).run Tryz.prog W = .ok (.tuple #[.agg cs, v]) W := by
  rw [results_cell_tmp h, hp, hv]
  simp [asAddr, Result.andThen, load_dtrip hb hs]
theorem dtrip_set {W : World} {b : Nat} {x0 x1 x2 x3 : Value} (h : Box W b #[x0, x1, x2, x3] 87) (v0 v1 v2 v3 : Value) :
    Box ((((W.setCell ⟨b, 0, none⟩ v0).setCell ⟨b, 1, none⟩ v1).setCell ⟨b, 2, none⟩ v2).setCell ⟨b, 3, none⟩ v3) b #[v0, v1, v2, v3] 87 :=
  (((h.set 0 v0 #[v0, x1, x2, x3] rfl).set 1 v1 #[v0, v1, x2, x3] rfl).set 2 v2 #[v0, v1, v2, x3] rfl).set 3 v3 #[v0, v1, v2, v3] rfl

/-- the boxes of the document's run: the world, the route, what is answered, an empty trip -/
structure GB (V : World) (b1 b2 b3 b4 : Nat) (x : Wd) (r : Rd) : Prop where
  w : WX V b1 x
  r : RX V b2 r
  o : Box V b3 #[.slice none 0 0, .int .i64 0, .int .i64 0, .int .i64 0] 87
  z : Box V b4 #[.slice none 0 0, .int .i64 0, .int .i64 0, .int .i64 0] 87
theorem GB.below {V V' : World} {b1 b2 b3 b4 : Nat} {x : Wd} {r : Rd} (h : GB V b1 b2 b3 b4 x r) (hb : Below V.heap.size V V') : GB V' b1 b2 b3 b4 x r := ⟨h.w.below hb, h.r.below hb, h.o.below hb, h.z.below hb⟩
theorem GB.new {w : World} {x : Wd} {r : Rd} (hx : WAt w x) (hr : RAt w r) : GB ((((w.alloc (.cells #[.int .i64 x.N, .slice x.dA x.dm x.dc, .slice x.tA x.tm x.tc, .slice x.A x.m x.c, .slice x.B x.k x.d] 28)).alloc (.cells #[.int .i64 r.tr, .slice r.sA r.sm r.sc] 49)).alloc (.cells #[.slice none 0 0, .int .i64 0, .int .i64 0, .int .i64 0] 87)).alloc (.cells #[.slice none 0 0, .int .i64 0, .int .i64 0, .int .i64 0] 87)) w.heap.size (w.heap.size + 1) (w.heap.size + 1 + 1) (w.heap.size + 1 + 1 + 1) x r := by
  refine ⟨(((WX.new hx).below (below_alloc _ _)).below (below_alloc _ _)).below (below_alloc _ _), ?_, ?_, ?_⟩
  · rw [size_one w (.cells #[.int .i64 x.N, .slice x.dA x.dm x.dc, .slice x.tA x.tm x.tc, .slice x.A x.m x.c, .slice x.B x.k x.d] 28)]
    exact ((RX.new (hr.below (below_alloc _ _))).below (below_alloc _ _)).below (below_alloc _ _)
  · rw [show w.heap.size + 1 + 1 = ((w.alloc (.cells #[.int .i64 x.N, .slice x.dA x.dm x.dc, .slice x.tA x.tm x.tc, .slice x.A x.m x.c, .slice x.B x.k x.d] 28)).alloc (.cells #[.int .i64 r.tr, .slice r.sA r.sm r.sc] 49)).heap.size from by simp]
    exact (Box.new _ _ _).below (below_alloc _ _)
  · rw [show w.heap.size + 1 + 1 + 1 = (((w.alloc (.cells #[.int .i64 x.N, .slice x.dA x.dm x.dc, .slice x.tA x.tm x.tc, .slice x.A x.m x.c, .slice x.B x.k x.d] 28)).alloc (.cells #[.int .i64 r.tr, .slice r.sA r.sm r.sc] 49)).alloc (.cells #[.slice none 0 0, .int .i64 0, .int .i64 0, .int .i64 0] 87)).heap.size from by simp]
    exact Box.new _ _ _

theorem dvisit_info : (Tryz.prog.info? 117).map (fun i => (i.zero, i.size, i.bytes)) = some (some (.agg #[.int .i64 0, .int .i64 0, .int .i64 0, .int .i64 0]), 4, 32) := by kernel_rfl
def OwnD (W : World) (base : Nat) (v : Value) (l : List Rt.V) : Prop := OwnR Rt.V.ints 4 117 W base v l
/-- the document's trip while it is made: its visits so far -/
structure DO (w0 : World) (g : Nat) (A : Option Addr) (n c : Nat) (vs : List Rt.V) (W : World) : Prop where
  bel : Below w0.heap.size w0 W
  hg : w0.heap.size ≤ g
  box : Box W g #[.slice A n c, .int .i64 0, .int .i64 0, .int .i64 0] 87
  own : OwnD W (g + 1) (.slice A n c) vs
theorem DO.below {w0 W W' : World} {g : Nat} {A : Option Addr} {n c : Nat} {vs : List Rt.V} (h : DO w0 g A n c vs W) (hb : Below W.heap.size W W') : DO w0 g A n c vs W' :=
  ⟨below_next h.bel hb, h.hg, h.box.below hb, h.own.blocks fun k _ hk => hb.block k hk⟩
theorem DO.start (w : World) : DO w w.heap.size none 0 0 [] (w.alloc (.cells #[.slice none 0 0, .int .i64 0, .int .i64 0, .int .i64 0] 87)) := ⟨below_alloc _ _, Nat.le_refl _, Box.new _ _ _, OwnR.none _ _ _ _ _⟩
/-- what putting one more visit in leaves -/
def PutD (w0 : World) (g : Nat) (X : Option Addr) (n cx n' : Nat) (vs' : List Rt.V) (b : Nat) (cs : Array Value) (v' : Value) (w5 : World) : Prop :=
  ∃ A cp, v' = .slice A n' cp ∧ w5.cell? ⟨g, 0, none⟩ = some (.slice X n cx) ∧ w5.frozen? ⟨g, 0, none⟩ = false ∧ Hid (DO w0 g A n' cp vs' (w5.setCell ⟨g, 0, none⟩ (.slice A n' cp)) ∧ Box (w5.setCell ⟨g, 0, none⟩ (.slice A n' cp)) b cs 117)
theorem DO.put {w0 W : World} {g : Nat} {X : Option Addr} {n cx : Nat} {vs : List Rt.V} (h : DO w0 g X n cx vs W) (v0 v1 v2 v3 : Int) (vs' : List Rt.V) (n' : Nat) (hvs : vs ++ [⟨v0, v1, v2, v3⟩] = vs') (hn : vs'.length = n') (hs : vs.length ≤ 1000) (b : Nat) (cs : Array Value) (hb : Box W b cs 117) (hbg : b ≠ g) (hbX : ∀ ad, X = some ad → ad.block ≠ b) :
    ∃ v' w', (Builtin.append_ #[85, 85] 85 #[.slice X n cx, .slice (some ⟨W.heap.size, 0, none⟩) 1 1]).run Tryz.prog (W.alloc (.cells #[.int .i64 v0, .int .i64 v1, .int .i64 v2, .int .i64 v3] 117)) = .ok v' w' ∧ PutD w0 g X n cx n' vs' b cs v' w' := by
  subst hvs hn
  obtain ⟨i0, hi0, hz0, hz1, hz2⟩ := info_parts4 dvisit_info
  have hbx0 : Box (W.alloc (.cells #[.int .i64 v0, .int .i64 v1, .int .i64 v2, .int .i64 v3] 117)) W.heap.size #[.int .i64 v0, .int .i64 v1, .int .i64 v2, .int .i64 v3] 117 := Box.new _ _ _
  have hgl := h.box.lt
  obtain ⟨v', w5, h1, h2, h3, _⟩ := run_append_own (P := Tryz.prog) (W.alloc (.cells #[.int .i64 v0, .int .i64 v1, .int .i64 v2, .int .i64 v3] 117)) (g + 1) 85 85 117 i0 _ 4 32 Tryz.underlying85 hi0 hz0 hz1 hz2 rfl (by omega) (.slice X n cx) vs.length ((vs.flatMap Rt.V.ints).map (Value.int .i64)) (h.own.blocks fun k _ hk => heap_alloc_old W _ hk) ⟨W.heap.size, 0, none⟩ 1 1 ((Rt.V.ints ⟨v0, v1, v2, v3⟩).map (Value.int .i64)) rfl
    (fun j u hu => by
      rw [Addr.add_mid, Nat.zero_add]
      exact hbx0.cell j u (by simpa [Rt.V.ints] using hu)) (by intro y hy; obtain ⟨z, _, rfl⟩ := List.mem_map.1 hy; rfl) (by unfold maxLen; omega)
    (Nat.le_trans (Nat.mul_le_mul (show vs.length + 1 ≤ 1001 by omega) (Nat.le_refl 32)) (by decide)) (Nat.le_trans hgl (below_alloc W _).size)
  have ho : OwnD w5 (g + 1) v' (vs ++ [⟨v0, v1, v2, v3⟩]) := by
    unfold OwnD OwnR
    rw [List.length_append, List.flatMap_append, List.map_append]
    simpa using h2
  obtain ⟨A', cp, e, _⟩ := ho.row
  subst e
  have hk : ∀ k, k < W.heap.size → (∀ ad, X = some ad → ad.block ≠ k) → w5.heap[k]? = W.heap[k]? := fun k hk hA => by
    rw [h3.block k (Nat.lt_of_lt_of_le hk (below_alloc W _).size) (fun e => by
      cases X with
      | none => cases e
      | some ad => exact hA ad rfl (Option.some.inj e).symm)]
    exact heap_alloc_old W _ hk
  have hpl := (OwnR.place h.own).2.2.2
  have hb5 : Below (g + 1) W w5 := ⟨h3.os, h3.tape, h3.output, Nat.le_trans (below_alloc W _).size h3.size, fun k hkb => hk k (by omega) (fun ad e => by have := (hpl ad e).1; omega)⟩
  have hbx : Box w5 g _ _ := h.box.old hb5 (Nat.lt_succ_self g)
  have hbo : Box w5 b cs 117 := (hk b hb.lt hbX).trans hb
  have hgg := h.hg
  refine ⟨_, w5, h1, A', cp, rfl, hbx.cell 0 _ rfl, hbx.fz 0, ⟨?_, h.hg, hbx.set 0 _ _ rfl, ho.blocks fun k hk _ => Go.Deep.blk_setCell_other _ _ _ _ (by show k ≠ g; omega)⟩, ?_⟩
  · exact (h.bel.trans (hb5.mono (by omega))).setCell (p := ⟨g, 0, none⟩) h.hg _
  · exact (Go.Deep.blk_setCell_other _ _ _ _ (by show b ≠ g; exact hbg)).trans hbo

set_option maxHeartbeats 20000000 in
theorem drun_b (x : Wd) (r : Rd) (w : World) (res : Rt.R) (hres : Rt.runS x.N x.D x.T x.os x.ts r.tr r.st = res) (hx : WAt w x) (hr : RAt w r) :
    Calls Tryz.prog 51 #[.agg #[.int .i64 x.N, .slice x.dA x.dm x.dc, .slice x.tA x.tm x.tc, .slice x.A x.m x.c, .slice x.B x.k x.d], .agg #[.int .i64 r.tr, .slice r.sA r.sm r.sc]] w (TripPost w res) := by
  have HX := Lib.hid (GB.new hx hr)
  have HB0 : Hid (Below w.heap.size w ((((w.alloc (.cells #[.int .i64 x.N, .slice x.dA x.dm x.dc, .slice x.tA x.tm x.tc, .slice x.A x.m x.c, .slice x.B x.k x.d] 28)).alloc (.cells #[.int .i64 r.tr, .slice r.sA r.sm r.sc] 49)).alloc (.cells #[.slice none 0 0, .int .i64 0, .int .i64 0, .int .i64 0] 87)).alloc (.cells #[.slice none 0 0, .int .i64 0, .int .i64 0, .int .i64 0] 87))) := below_more (below_more (below_more (below_alloc _ _) _) _) _
  have HB3 : Hid (w.heap.size ≤ w.heap.size + 1 + 1) := by unfold Hid; omega
  have hsm := hr.s2
  have HSL := Lib.hid hr.sl
  have HML := Lib.hid hx.ml
  have HKL := Lib.hid hx.kl
  have HRES := Lib.hid hres
  clear hx hr hres
  obtain ⟨f, hf⟩ : ∃ f, Rt.worldE x.N x.D x.T x.os x.ts = f := ⟨_, rfl⟩
  have HF := Lib.hid hf
  go_enter Tryz.func51, Tryz.ntmps51
  go_wp2_with fail
  generalize ((((w.alloc (.cells #[.int .i64 x.N, .slice x.dA x.dm x.dc, .slice x.tA x.tm x.tc, .slice x.A x.m x.c, .slice x.B x.k x.d] 28)).alloc (.cells #[.int .i64 r.tr, .slice r.sA r.sm r.sc] 49)).alloc (.cells #[.slice none 0 0, .int .i64 0, .int .i64 0, .int .i64 0] 87)).alloc (.cells #[.slice none 0 0, .int .i64 0, .int .i64 0, .int .i64 0] 87)) = V at *
  generalize w.heap.size + 1 + 1 + 1 = b4 at *
  generalize w.heap.size + 1 + 1 = b3 at *
  generalize w.heap.size + 1 = b2 at *
  generalize hb1 : w.heap.size = b1 at HX ⊢
  clear hb1
  have HC := Lib.hid (dworld_b x V f hf HX.out.w.at_)
  clear hf
  with_reducible refine HC.out.mono ?_
  rintro e w1 ⟨rfl, hb1⟩
  have HX1 := Lib.hid (HX.out.below hb1.out)
  have HBW := Lib.hid (below_next HB0.out hb1.out)
  clear hb1 HC HX HB0
  by_cases hf0 : f = 0
  · subst hf0
    have e1 : ((0 : Int) != (0 : Int)) = false := by decide
    have x1 := HX1.out.r.c1
    by_cases hlen : r.sm < 1 ∨ 12 < r.sm
    · have HRE : Hid (Rt.err 2 = res) := by rw [← HRES.out]; exact (Rt.run_form HF.out (by rw [HSL.out]; exact hlen)).symm
      rcases hlen with hlen | hlen
      · have e2 : decide ((r.sm : Int) < (1 : Int)) = true := decide_eq_true (by omega)
        clear hlen
        have z0 := HX1.out.o.cell 0 _ rfl
        have f0 := HX1.out.o.fz 0
        have n0 := HX1.out.z.cell 0 _ rfl
        have z1 := HX1.out.o.cell 1 _ rfl
        have f1 := HX1.out.o.fz 1
        have n1 := HX1.out.z.cell 1 _ rfl
        have z2 := HX1.out.o.cell 2 _ rfl
        have f2 := HX1.out.o.fz 2
        have n2 := HX1.out.z.cell 2 _ rfl
        have z3 := HX1.out.o.cell 3 _ rfl
        have f3 := HX1.out.o.fz 3
        have n3 := HX1.out.z.cell 3 _ rfl
        go_wp2
        exact bodyPost_ret (results_dtrip (v := .int .i64 2) rfl _ (dtrip_set HX1.out.o _ _ _ _) rfl rfl rfl) rfl (TripPost.err HRE.out (below_set4 HBW.out _ HB3.out _ _ _ _))
      · have e2 : decide ((r.sm : Int) < (1 : Int)) = false := decide_eq_false (by omega)
        have e3 : decide ((12 : Int) < (r.sm : Int)) = true := decide_eq_true (by omega)
        clear hlen
        have z0 := HX1.out.o.cell 0 _ rfl
        have f0 := HX1.out.o.fz 0
        have n0 := HX1.out.z.cell 0 _ rfl
        have z1 := HX1.out.o.cell 1 _ rfl
        have f1 := HX1.out.o.fz 1
        have n1 := HX1.out.z.cell 1 _ rfl
        have z2 := HX1.out.o.cell 2 _ rfl
        have f2 := HX1.out.o.fz 2
        have n2 := HX1.out.z.cell 2 _ rfl
        have z3 := HX1.out.o.cell 3 _ rfl
        have f3 := HX1.out.o.fz 3
        have n3 := HX1.out.z.cell 3 _ rfl
        go_wp2
        exact bodyPost_ret (results_dtrip (v := .int .i64 2) rfl _ (dtrip_set HX1.out.o _ _ _ _) rfl rfl rfl) rfl (TripPost.err HRE.out (below_set4 HBW.out _ HB3.out _ _ _ _))
    · have e2 : decide ((r.sm : Int) < (1 : Int)) = false := decide_eq_false (by omega)
      have e3 : decide ((12 : Int) < (r.sm : Int)) = false := decide_eq_false (by omega)
      have hm12 : r.sm ≤ 12 := by omega
      have HLEN : Hid (¬ (r.st.length < 1 ∨ 12 < r.st.length)) := by unfold Hid; rw [HSL.out]; exact hlen
      clear hlen
      have x0 := HX1.out.r.c0
      have c0 := HX1.out.w.c0
      have c1 := HX1.out.w.c1
      have c2 := HX1.out.w.c2
      have c3 := HX1.out.w.c3
      have c4 := HX1.out.w.c4
      obtain ⟨ft, hft⟩ : ∃ f, Ld.findI (x.ts.map Ld.T.id) r.tr = f := ⟨_, rfl⟩
      have HFT := Lib.hid hft
      have HC := Lib.hid (dtruck_b x r.tr w1 ft hft HX1.out.w.at_)
      clear hft
      go_wp2_with fail
      with_reducible refine HC.out.mono ?_
      rintro e w2 ⟨rfl, hb2⟩
      clear c0 c1 c2 c3 c4 x0 x1 HC
      have HX2 := Lib.hid (HX1.out.below hb2.out)
      have HB2 := Lib.hid (below_next HBW.out hb2.out)
      clear hb2 HX1 HBW
      by_cases hft1 : ft = -1
      · subst hft1
        have HRE : Hid (Rt.err 5 = res) := by rw [← HRES.out]; exact (Rt.run_name HF.out HLEN.out (.inl HFT.out)).symm
        have e4 : decide ((-1 : Int) < 0) = true := by decide
        have z0 := HX2.out.o.cell 0 _ rfl
        have f0 := HX2.out.o.fz 0
        have n0 := HX2.out.z.cell 0 _ rfl
        have z1 := HX2.out.o.cell 1 _ rfl
        have f1 := HX2.out.o.fz 1
        have n1 := HX2.out.z.cell 1 _ rfl
        have z2 := HX2.out.o.cell 2 _ rfl
        have f2 := HX2.out.o.fz 2
        have n2 := HX2.out.z.cell 2 _ rfl
        have z3 := HX2.out.o.cell 3 _ rfl
        have f3 := HX2.out.o.fz 3
        have n3 := HX2.out.z.cell 3 _ rfl
        go_wp2
        exact bodyPost_ret (results_dtrip (v := .int .i64 5) rfl _ (dtrip_set HX2.out.o _ _ _ _) rfl rfl rfl) rfl (TripPost.err HRE.out (below_set4 HB2.out _ HB3.out _ _ _ _))
      · obtain ⟨kt, t, hkt, hktl, htk, hti⟩ := Rt.find_mem Ld.T.id x.ts r.tr (by rw [HFT.out]; exact hft1)
        rw [HFT.out] at hkt
        subst hkt
        have HT : Hid (Rt.truckAt x.ts r.tr = t) := Rt.truckAt_eq HFT.out htk
        have HTN : Hid (¬ Ld.findI (x.ts.map Ld.T.id) r.tr = -1) := by unfold Hid; rw [HFT.out]; exact hft1
        have HTOK := Lib.hid ((Rt.ok_of HF.out).tt t (List.mem_of_getElem? htk))
        have e4 : decide ((kt : Int) < 0) = false := decide_eq_false (by omega)
        have i1 : (kt : Int) < (x.k : Int) := by rw [← HKL.out]; omega
        have c4 := HX2.out.w.c4
        obtain ⟨ab, hab, c0, c1, c2, c3, g4, c5, c6⟩ := HX2.out.w.at_.ts.at_ htk
        obtain ⟨t0, t1, t2, t3, t4, t5, t6⟩ := t
        simp only at c0 c1 c2 c3 g4 c5 c6
        have HAB := Lib.hid hab
        clear hab htk hktl hti hft1
        generalize x.B = xB at *
        obtain rfl := HAB.out
        have HX3 := Lib.hid (HX2.out.below (below_alloc w2 (.cells #[.int .i64 t0, .int .i64 t1, .int .i64 t2, .int .i64 t3, .int .i64 t4, .int .i64 t5, .int .i64 t6] 54)))
        have HTB : Hid (Box (w2.alloc (.cells #[.int .i64 t0, .int .i64 t1, .int .i64 t2, .int .i64 t3, .int .i64 t4, .int .i64 t5, .int .i64 t6] 54)) w2.heap.size #[.int .i64 t0, .int .i64 t1, .int .i64 t2, .int .i64 t3, .int .i64 t4, .int .i64 t5, .int .i64 t6] 54) := Box.new _ _ _
        have HB3' := Lib.hid (below_more HB2.out (.cells #[.int .i64 t0, .int .i64 t1, .int .i64 t2, .int .i64 t3, .int .i64 t4, .int .i64 t5, .int .i64 t6] 54))
        have HTW := Lib.hid (TwoR.start (w2.alloc (.cells #[.int .i64 t0, .int .i64 t1, .int .i64 t2, .int .i64 t3, .int .i64 t4, .int .i64 t5, .int .i64 t6] 54)))
        have hsz1 : Hid (w2.heap.size + 1 = (w2.alloc (.cells #[.int .i64 t0, .int .i64 t1, .int .i64 t2, .int .i64 t3, .int .i64 t4, .int .i64 t5, .int .i64 t6] 54)).heap.size) := by unfold Hid; simp
        clear HX2 HB2
        go_wp2_with fail
        clear c0 c1 c2 c3 c4 g4 c5 c6
        rw [← hsz1.out] at HTW
        generalize w2.alloc (.cells #[.int .i64 t0, .int .i64 t1, .int .i64 t2, .int .i64 t3, .int .i64 t4, .int .i64 t5, .int .i64 t6] 54) = U at *
        generalize w2.heap.size + 1 + 1 = l1 at *
        generalize w2.heap.size + 1 = l0 at *
        generalize w2.heap.size = tb at *
        generalize (U.alloc (.cells #[] 52)).alloc (.cells #[] 3) = W1 at *
        go_loopg [5, 10, 11, 12, 13] r.sm (fun gk s5 s10 s11 s12 s13 W => ∃ (i : Nat) (t : Bool) (X Y : Option Addr) (cx cy : Nat) (W0 : World), W0 = W ∧ i + gk = r.sm ∧ s5 = .int .i64 0 ∧ s10 = .slice X i cx ∧ s11 = .slice Y i cy ∧ s12 = .bool t ∧ s13 = .int .i64 (i : Int) ∧ Hid (TwoR U X i cx ((Rt.ordersOf x.os r.st).take i) Y i cy (((Rt.ordersOf x.os r.st).take i).map Ld.O.node) W0) ∧ Hid (t = Ld.twB (r.st.take i)) ∧ Hid (∀ (j : Nat) (id : Int), j < i → r.st[j]? = some id → ¬ Ld.findI (x.os.map Ld.O.id) id = -1))
        case atStart => exact ⟨0, false, _, _, 0, 0, _, rfl, by omega, rfl, rfl, rfl, rfl, rfl, HTW.out, rfl, fun j id hj => by omega⟩
        case round =>
          obtain ⟨i, t, X, Y, cx, cy, W0, rfl, hig, rfl, rfl, rfl, rfl, rfl, HTR, HTT, HKK⟩ := hrel
          have HX0 := Lib.hid (HX3.out.below HTR.out.bel)
          by_cases hlt : i < r.sm
          · obtain ⟨go, rfl⟩ : ∃ j, gk = j + 1 := ⟨gk - 1, by omega⟩
            obtain ⟨id, hid⟩ := mlist_at r.st i (by rw [HSL.out]; exact hlt)
            obtain ⟨aq, hsA, hc⟩ := HX0.out.r.at_.st i id hid
            have HID := Lib.hid hid
            have HSA := Lib.hid hsA
            have x1 := HX0.out.r.c1
            have x3 := HX0.out.w.c3
            obtain ⟨fk, hfk⟩ : ∃ z, Ld.findI (x.os.map Ld.O.id) id = z := ⟨_, rfl⟩
            have HFK := Lib.hid hfk
            have HQS : Hid (∀ U' : World, Below U.heap.size U U' → U'.cell? ⟨b2, 1, none⟩ = some (.slice (some aq) r.sm r.sc) ∧ ∀ (k : Nat) (y : Int), r.st[k]? = some y → U'.cell? (aq.add k) = some (.int .i64 y)) := fun U' hU => by
              have h := (HX3.out.below hU).r
              refine ⟨by rw [← hsA]; exact h.c1, fun k y hk => ?_⟩
              obtain ⟨aq', e, hc⟩ := h.at_.st k y hk
              rw [hsA] at e
              obtain rfl := Option.some.inj e
              exact hc
            have HCE : Hid (∀ U' : World, Below W0.heap.size W0 U' → (U'.cell? ⟨b1, 3, none⟩ = some (.slice x.A x.m x.c) ∧ U'.cell? ⟨b2, 1, none⟩ = some (.slice (some aq) r.sm r.sc) ∧ U'.cell? (aq.add i) = some (.int .i64 id) ∧ Below W0.heap.size W0 U')) := fun U' hU => ⟨(HX0.out.below hU).w.c3, (HQS.out U' (below_next HTR.out.bel hU)).1, (HQS.out U' (below_next HTR.out.bel hU)).2 i id HID.out, hU⟩
            have HC : Hid (∀ U' : World, (U'.cell? ⟨b1, 3, none⟩ = some (.slice x.A x.m x.c) ∧ U'.cell? ⟨b2, 1, none⟩ = some (.slice (some aq) r.sm r.sc) ∧ U'.cell? (aq.add i) = some (.int .i64 id) ∧ Below W0.heap.size W0 U') → Calls Tryz.prog 81 #[.slice x.A x.m x.c, .int .i64 id] U' fun e U'' => e = .returned (.int .i64 fk) ∧ (U''.cell? ⟨b1, 3, none⟩ = some (.slice x.A x.m x.c) ∧ U''.cell? ⟨b2, 1, none⟩ = some (.slice (some aq) r.sm r.sc) ∧ U''.cell? (aq.add i) = some (.int .i64 id) ∧ Below W0.heap.size W0 U'')) := by
              rintro U' ⟨_, _, _, hU⟩
              exact (rfind_val x.A x.m x.c x.os id U' fk hfk (HX0.out.below hU).w.at_.ml (HX0.out.below hU).w.at_.m2 (HX0.out.below hU).w.at_.os).mono fun _ _ ⟨e1, e2⟩ => ⟨e1, HCE.out _ (below_next hU e2.out)⟩
            have hB := (Below.refl W0.heap.size W0).drew
            have i0 : (0 : Int) ≤ (i : Int) := by omega
            have i3 : (i : Int) < (r.sm : Int) := by omega
            clear hid hsA hfk
            generalize r.sA = sA at *
            obtain rfl := HSA.out
            go_wp2
            go_region_held3 (fun U' : World => (U'.cell? ⟨b1, 3, none⟩ = some (.slice x.A x.m x.c) ∧ U'.cell? ⟨b2, 1, none⟩ = some (.slice (some aq) r.sm r.sc) ∧ U'.cell? (aq.add i) = some (.int .i64 id) ∧ Below W0.heap.size W0 U')) (first | exact ⟨x3, x1, hc, hB⟩ | exact ⟨k0, k1, k2, kb⟩ | assumption)
              (first
                | (go_at_call 81; ((with_reducible refine (HC.out _ (by assumption)).mono ?_)); rintro e w5 ⟨rfl, k0, k1, k2, kb⟩))
            all_goals
              have HB5 := Lib.hid kb
              clear k0 k1 k2 kb x1 x3 hc hB HC HCE
              have HBU := Lib.hid (below_next HTR.out.bel HB5.out)
              have HX5 := Lib.hid (HX0.out.below HB5.out)
              have HTR5 := Lib.hid (HTR.out.below HB5.out)
              clear HTR HX0 HB5
              by_cases hk1 : fk = -1
              · subst hk1
                have HRE : Hid (Rt.err 5 = res) := by rw [← HRES.out]; exact (Rt.run_name HF.out HLEN.out (.inr (Rt.allIn_no HID.out HFK.out))).symm
                have e5 : decide ((-1 : Int) < 0) = true := by decide
                have z0 := HX5.out.o.cell 0 _ rfl
                have f0 := HX5.out.o.fz 0
                have n0 := HX5.out.z.cell 0 _ rfl
                have z1 := HX5.out.o.cell 1 _ rfl
                have f1 := HX5.out.o.fz 1
                have n1 := HX5.out.z.cell 1 _ rfl
                have z2 := HX5.out.o.cell 2 _ rfl
                have f2 := HX5.out.o.fz 2
                have n2 := HX5.out.z.cell 2 _ rfl
                have z3 := HX5.out.o.cell 3 _ rfl
                have f3 := HX5.out.o.fz 3
                have n3 := HX5.out.z.cell 3 _ rfl
                go_wp2
                exact bodyPost_ret (results_dtrip (v := .int .i64 5) rfl _ (dtrip_set HX5.out.o _ _ _ _) rfl rfl rfl) rfl (TripPost.err HRE.out (below_set4 (below_next HB3'.out HBU.out) _ HB3.out _ _ _ _))
              · obtain ⟨j, o, hj, hjl, hjo, hoi⟩ := Rt.find_mem Ld.O.id x.os id (by rw [HFK.out]; exact hk1)
                rw [HFK.out] at hj
                subst hj
                have e5 : decide ((j : Int) < 0) = false := decide_eq_false (by omega)
                have HOO : Hid ((Rt.ordersOf x.os r.st)[i]? = some o) := by
                  unfold Hid Rt.ordersOf
                  rw [List.getElem?_map, HID.out]
                  show some (Rt.ordAt x.os id) = some o
                  rw [Rt.ordAt_eq HFK.out hjo]
                have HJO := Lib.hid hjo
                have HKK2 : Hid (∀ (j : Nat) (id : Int), j < i + 1 → r.st[j]? = some id → ¬ Ld.findI (x.os.map Ld.O.id) id = -1) := fun a id' ha hi' => by
                  by_cases h : a < i
                  · exact HKK.out a id' h hi'
                  · obtain rfl : a = i := by omega
                    rw [HID.out] at hi'
                    obtain rfl := Option.some.inj hi'
                    rw [HFK.out]
                    exact hk1
                have i2 : (j : Int) < (x.m : Int) := by rw [← HML.out]; omega
                have HSN := Lib.hid (Ld.tw_snoc HID.out)
                clear hjl hjo hoi hk1
                go_wp2_with fail
                go_loopg [12, 15] i (fun gk s12 s15 W => ∃ (W2 : World) (k : Nat) (u : Bool) (q : Nat), W2 = W ∧ W2 = w5.drewN q ∧ k + gk = i ∧ s12 = .bool u ∧ s15 = .int .i64 (k : Int) ∧ Hid (u = (t || (r.st.take k).any (fun y => y == id))))
                case atStart => exact ⟨_, 0, t, 0, rfl, rfl, by omega, rfl, rfl, by unfold Hid; cases t <;> rfl⟩
                case round =>
                  obtain ⟨W2, k, u, q, rfl, hWq, hkg, rfl, rfl, HU⟩ := hrel
                  have HWQ := Lib.hid hWq
                  clear hWq
                  have HB2 : Hid (Below U.heap.size U W2) := by unfold Hid; rw [HWQ.out]; exact below_drewN HBU.out q
                  obtain ⟨x1, hst⟩ := HQS.out W2 HB2.out
                  by_cases hki : k < i
                  · obtain ⟨gi, rfl⟩ : ∃ j, gk = j + 1 := ⟨gk - 1, by omega⟩
                    obtain ⟨y, hy⟩ := mlist_at r.st k (by rw [HSL.out]; omega)
                    have s0 := hst k y hy
                    have s1 := hst i id HID.out
                    have HU2 : Hid ((u || (y == id)) = (t || (r.st.take (k + 1)).any (fun y => y == id))) := by
                      unfold Hid
                      rw [Ld.any_snoc hy]
                      exact Ld.or_go HU.out
                    have j3 : (k : Int) < (r.sm : Int) := by omega
                    have j0 : (0 : Int) ≤ (k : Int) := by omega
                    clear hst hy HU
                    cases u with
                    | true =>
                      have hu : Hid (true = (t || (r.st.take (k + 1)).any (fun y => y == id))) := HU2.out
                      go_wp2
                      go_quiet (fail)
                      go_wp2
                      go_roundg gi
                      case measure => omega
                      case rel => exact ⟨_, k + 1, true, _, rfl, by rw [HWQ.out]; exact World.drewN_drewN _ _ _, by omega, rfl, by first | rfl | go_num, hu.out⟩
                    | false =>
                      cases hyi : (y == id) with
                      | true =>
                        have hu : Hid (true = (t || (r.st.take (k + 1)).any (fun y => y == id))) := by have := HU2.out; rw [hyi] at this; exact this
                        go_wp2
                        go_quiet (fail)
                        go_wp2
                        go_roundg gi
                        case measure => omega
                        case rel => exact ⟨_, k + 1, true, _, rfl, by rw [HWQ.out]; exact World.drewN_drewN _ _ _, by omega, rfl, by first | rfl | go_num, hu.out⟩
                      | false =>
                        have hu : Hid (false = (t || (r.st.take (k + 1)).any (fun y => y == id))) := by have := HU2.out; rw [hyi] at this; exact this
                        go_wp2
                        go_quiet (fail)
                        go_wp2
                        go_roundg gi
                        case measure => omega
                        case rel => exact ⟨_, k + 1, false, _, rfl, by rw [HWQ.out]; exact World.drewN_drewN _ _ _, by omega, rfl, by first | rfl | go_num, hu.out⟩
                  · have hke : k = i := by omega
                    have HU3 : Hid (u = Ld.twB (r.st.take (i + 1))) := by
                      unfold Hid
                      rw [HSN.out, ← HTT.out, ← hke]
                      exact HU.out
                    clear hke x1 hst HU
                    have HTR6 : Hid (TwoR U X i cx ((Rt.ordersOf x.os r.st).take i) Y i cy (((Rt.ordersOf x.os r.st).take i).map Ld.O.node) W2) := by
                      unfold Hid
                      rw [HWQ.out]
                      exact HTR5.out.below ⟨rfl, rfl, rfl, Nat.le_refl _, fun _ _ => rfl⟩
                    obtain ⟨ao, hao, c0, c1, c2, c3, c4, c5, c6, c7⟩ := (HX3.out.below HB2.out).w.at_.os.at_ HJO.out
                    obtain ⟨a0, a1, a2, a3, a4, a5, a6, a7⟩ := o
                    simp only at c0 c1 c2 c3 c4 c5 c6 c7
                    have x3 := (HX3.out.below HB2.out).w.c3
                    have HQ : Hid (∀ W' : World, Below U.heap.size U W' → W'.cell? ⟨b1, 3, none⟩ = some (.slice (some ao) x.m x.c) ∧ W'.cell? ⟨(ao.add (j * 8)).block, (ao.add (j * 8)).off + 2, none⟩ = some (.int .i64 a2)) := fun W' hb => by
                      refine ⟨by rw [← hao]; exact (HX3.out.below hb).w.c3, ?_⟩
                      obtain ⟨ao', e, hc⟩ := (HX3.out.below hb).w.at_.os.at_ HJO.out
                      rw [hao] at e
                      obtain rfl := Option.some.inj e
                      exact hc.c2
                    have HA1 := Lib.hid (HTR6.out.order a0 a1 a2 a3 a4 a5 a6 a7 _ (i + 1) (Rt.take_one HOO.out) rfl (by omega))
                    have HA2 : Hid (∀ X' c' W', TwoR U X' (i + 1) c' ((Rt.ordersOf x.os r.st).take (i + 1)) Y i cy (((Rt.ordersOf x.os r.st).take i).map Ld.O.node) W' → _) := fun X' c' W' h => h.node a2 _ (i + 1) (Rt.map_snoc HOO.out) rfl (by omega)
                    have HAO := Lib.hid hao
                    clear hao
                    generalize x.A = xA at *
                    obtain rfl := HAO.out
                    go_wp2_with (first
                      | (at_builtin; refine wpList_append_n rfl (.tmp 106) (.tmp 113) 30 30 rfl _ _ rfl rfl _ (HA2.out _ _ _ HP1.out) ?_; intro v2 w8 hap; obtain ⟨Y', cy', rfl, HP2⟩ := hap)
                      | (at_builtin; refine wpList_append_n rfl (.tmp 98) (.tmp 104) 25 25 rfl _ _ rfl rfl _ HA1.out ?_; intro v1 w7 hap; obtain ⟨X', cx', rfl, HP1⟩ := hap; have y3 := (HQ.out w7 HP1.out.bel).1; have y2 := (HQ.out w7 HP1.out.bel).2))
                    go_roundg go
                    case measure => omega
                    case rel => exact ⟨i + 1, u, X', Y', cx', cy', _, rfl, by omega, rfl, rfl, rfl, rfl, by first | rfl | go_num, HP2.out, HU3.out, HKK2.out⟩
          · have hin : i = r.sm := by omega
            have hst : r.st.take i = r.st := List.take_of_length_le (by rw [HSL.out]; omega)
            have hot : (Rt.ordersOf x.os r.st).take i = Rt.ordersOf x.os r.st := List.take_of_length_le (by rw [Rt.ordersOf_len, HSL.out]; omega)
            have hT1 := HTR.out
            rw [hot] at hT1
            have hT2 := HTT.out
            rw [hst] at hT2
            have HALL : Hid (Rt.allIn x.os r.st = true) := Rt.allIn_all fun j id hj => HKK.out j id (by have := (List.getElem?_eq_some_iff.1 hj).1; rw [HSL.out] at this; omega) hj
            have HL := Lib.hid hT1
            have HT2 := Lib.hid hT2
            have HLO : Hid ((Rt.ordersOf x.os r.st).length = i) := by unfold Hid; rw [Rt.ordersOf_len, HSL.out]; omega
            have hi12 : i ≤ 12 := by omega
            have hi1 : 1 ≤ i := by have := HLEN.out; rw [HSL.out] at this; omega
            have HBW := Lib.hid (below_next HB3'.out HL.out.bel)
            have x1 := HX0.out.r.c1
            clear hst hot hT1 hT2 HTR HTT HKK hin
            cases t with
            | true =>
              have HRE : Hid (Rt.err 6 = res) := by rw [← HRES.out]; exact (Rt.run_twice HF.out HLEN.out HTN.out HALL.out HT2.out.symm).symm
              have z0 := HX0.out.o.cell 0 _ rfl
              have f0 := HX0.out.o.fz 0
              have n0 := HX0.out.z.cell 0 _ rfl
              have z1 := HX0.out.o.cell 1 _ rfl
              have f1 := HX0.out.o.fz 1
              have n1 := HX0.out.z.cell 1 _ rfl
              have z2 := HX0.out.o.cell 2 _ rfl
              have f2 := HX0.out.o.fz 2
              have n2 := HX0.out.z.cell 2 _ rfl
              have z3 := HX0.out.o.cell 3 _ rfl
              have f3 := HX0.out.o.fz 3
              have n3 := HX0.out.z.cell 3 _ rfl
              go_wp2
              exact bodyPost_ret (results_dtrip (v := .int .i64 6) rfl _ (dtrip_set HX0.out.o _ _ _ _) rfl rfl rfl) rfl (TripPost.err HRE.out (below_set4 HBW.out _ HB3.out _ _ _ _))
            | false =>
              obtain ⟨ce, hce⟩ : ∃ z, Ld.carE ⟨t0, t1, t2, t3, t4, t5, t6⟩ (Rt.ordersOf x.os r.st) = z := ⟨_, rfl⟩
              have HCE := Lib.hid hce
              have HTB0 := Lib.hid (HTB.out.below HL.out.bel)
              have k0 : W0.cell? ⟨tb, 0, none⟩ = some (.int .i64 t0) := HTB0.out.cell 0 _ rfl
              have k1 : W0.cell? ⟨tb, 1, none⟩ = some (.int .i64 t1) := HTB0.out.cell 1 _ rfl
              have k2 : W0.cell? ⟨tb, 2, none⟩ = some (.int .i64 t2) := HTB0.out.cell 2 _ rfl
              have k3 : W0.cell? ⟨tb, 3, none⟩ = some (.int .i64 t3) := HTB0.out.cell 3 _ rfl
              have k4 : W0.cell? ⟨tb, 4, none⟩ = some (.int .i64 t4) := HTB0.out.cell 4 _ rfl
              have k5 : W0.cell? ⟨tb, 5, none⟩ = some (.int .i64 t5) := HTB0.out.cell 5 _ rfl
              have k6 : W0.cell? ⟨tb, 6, none⟩ = some (.int .i64 t6) := HTB0.out.cell 6 _ rfl
              have HC := Lib.hid (rcar_val ⟨t0, t1, t2, t3, t4, t5, t6⟩ X i cx (Rt.ordersOf x.os r.st) W0 ce hce HLO.out (by omega) HL.out.orders.2.1)
              clear hce
              go_wp2_with fail
              with_reducible refine HC.out.mono ?_
              rintro e w5 ⟨rfl, h5⟩
              clear k0 k1 k2 k3 k4 k5 k6 x1 HC
              have HX5 := Lib.hid (HX0.out.below h5.out)
              have HTB5 := Lib.hid (HTB0.out.below h5.out)
              have HL5 := Lib.hid (HL.out.below h5.out)
              have HB5 := Lib.hid (below_next HBW.out h5.out)
              clear h5 HX0 HTB0 HL HBW
              by_cases hc0 : ce = 0
              · subst hc0
                have e6 : ((0 : Int) != (0 : Int)) = false := by decide
                have HDR : Hid (Rt.driveS x.N x.D x.T ⟨t0, t1, t2, t3, t4, t5, t6⟩ (Rt.ordersOf x.os r.st) = res) := by
                  have h4 := HCE.out
                  rw [← HT.out] at h4
                  unfold Hid
                  rw [← HT.out, ← HRES.out]
                  exact (Rt.run_go HF.out HLEN.out HTN.out HALL.out HT2.out.symm h4).symm
                have k3 : (w5.alloc (.cells #[.slice none 0 0, .int .i64 0, .int .i64 0, .int .i64 0] 87)).cell? ⟨tb, 3, none⟩ = some (.int .i64 t3) := (HTB5.out.below (below_alloc _ _)).cell 3 _ rfl
                have HDO := Lib.hid (DO.start w5)
                go_wp2_with fail
                clear k3
                generalize w5.alloc (.cells #[.slice none 0 0, .int .i64 0, .int .i64 0, .int .i64 0] 87) = W6 at *
                generalize hg5 : w5.heap.size = g at HDO ⊢
                clear hg5
                have hok := Rt.ok_of HF.out
                have HAR := Lib.hid hok.ar
                have HOK := Lib.hid (Rt.ok_area HF.out)
                have HOD : Hid (∀ o ∈ Rt.ordersOf x.os r.st, Ld.OOk o x.N) := fun o ho => hok.oo o (Rt.orders_mem HALL.out o ho)
                have b30 : 0 ≤ t3 := HTOK.out.st0
                have b31 : t3 ≤ 1000000 := Int.le_trans HTOK.out.st1 HTOK.out.fi1
                obtain ⟨o9, ho9⟩ := mlist_at (Rt.ordersOf x.os r.st) 0 (by rw [HLO.out]; omega)
                obtain ⟨ax, hax, _⟩ := HL5.out.orders.2.1.at_ ho9
                have HOL : Hid (∀ W' : World, Below w5.heap.size w5 W' → ∀ (k : Nat) (o : Ld.O), (Rt.ordersOf x.os r.st)[k]? = some o → OAt W' (ax.add (k * 8)) o) := fun W' hb k o hk => by
                  obtain ⟨ax', e, hc⟩ := (HL5.out.below hb).orders.2.1.at_ hk
                  rw [hax] at e
                  obtain rfl := Option.some.inj e
                  exact hc
                have HL6 := Lib.hid HL5.out
                have HAX := Lib.hid hax
                clear hok hax ho9 HL5
                generalize X = XX at *
                obtain rfl := HAX.out
                go_loopg [18, 19, 20, 21] i (fun gk s18 s19 s20 s21 W => ∃ (k : Nat) (nd tim dis : Int) (bl : Bool) (A : Option Addr) (cA : Nat) (W7 : World), W7 = W ∧ k + gk = i ∧ s18 = .int .i64 tim ∧ s19 = .int .i64 nd ∧ s20 = .bool bl ∧ s21 = .int .i64 (k : Int) ∧ Hid (Rt.fin x.N x.D x.T ⟨0, t3, 0⟩ ((Rt.ordersOf x.os r.st).take k) = ⟨nd, tim, dis⟩) ∧ Hid (DO w5 g A k cA (Rt.visits x.N x.D x.T ⟨0, t3, 0⟩ ((Rt.ordersOf x.os r.st).take k)) W7) ∧ Hid (bl = !Rt.inTime x.N x.D x.T ⟨0, t3, 0⟩ ((Rt.ordersOf x.os r.st).take k)))
                case atStart => exact ⟨0, 0, t3, 0, false, none, 0, _, rfl, by omega, rfl, rfl, rfl, rfl, rfl, HDO.out, rfl⟩
                case round =>
                  obtain ⟨k, nd, tim, dis, bl, A, cA, W7, rfl, hkg, rfl, rfl, rfl, rfl, HFI, HD, HBL⟩ := hrel
                  obtain ⟨hnd, g0, g1, g2, g3⟩ := Rt.Bd.at_ HAR.out HOD.out (by rw [HLO.out]; exact hi12) b30 b31 HFI.out
                  have HX7 := Lib.hid (HX5.out.below HD.out.bel)
                  have x0 := HX7.out.w.c0
                  have x1 := HX7.out.w.c1
                  have x2 := HX7.out.w.c2
                  by_cases hkl : k < i
                  · obtain ⟨gi, rfl⟩ : ∃ j, gk = j + 1 := ⟨gk - 1, by omega⟩
                    obtain ⟨o, ho⟩ := mlist_at (Rt.ordersOf x.os r.st) k (by rw [HLO.out]; exact hkl)
                    have hoo := HOD.out o (List.mem_of_getElem? ho)
                    have hn2 := Rt.OOk.has hoo
                    have ob : 0 ≤ o.frm ∧ o.frm ≤ 1000000 ∧ 0 ≤ o.service ∧ o.service ≤ 10000 := by have := hoo.fr0; have := hoo.fr1; have := hoo.to1; have := hoo.se0; have := hoo.se1; omega
                    obtain ⟨a0, a1, a2, a3, a4, a5, a6, a7⟩ := o
                    simp only at hn2 ob
                    obtain ⟨q0, q1⟩ := HAR.out.at_d hnd hn2
                    obtain ⟨q2, q3⟩ := HAR.out.at_t hnd hn2
                    have hleg := legS_ok HOK.out hnd hn2
                    obtain ⟨dd, hdd⟩ : ∃ z, Ar.at2 x.N x.D nd a2 = z := ⟨_, rfl⟩
                    obtain ⟨tt, htt⟩ : ∃ z, Ar.at2 x.N x.T nd a2 = z := ⟨_, rfl⟩
                    obtain ⟨z, hz⟩ : ∃ z, tim + tt = z := ⟨_, rfl⟩
                    obtain ⟨y, hy⟩ : ∃ y, max z a5 = y := ⟨_, rfl⟩
                    rw [hdd] at hleg q0 q1
                    rw [htt] at hleg q2 q3
                    obtain ⟨n1, n2, n3⟩ := Rt.next_of (y := y) HFI.out ho hdd htt (by rw [hz]; exact hy)
                    rw [hz] at n2
                    have HN1 := Lib.hid n1
                    have HN2 := Lib.hid n2
                    have HN3 := Lib.hid n3
                    have HO := Lib.hid ho
                    have HLG := Lib.hid hleg
                    have HCE : Hid (∀ U' : World, Below W7.heap.size W7 U' → (U'.cell? ⟨b1, 0, none⟩ = some (.int .i64 x.N) ∧ U'.cell? ⟨b1, 1, none⟩ = some (.slice x.dA x.dm x.dc) ∧ U'.cell? ⟨b1, 2, none⟩ = some (.slice x.tA x.tm x.tc) ∧ U'.cell? ⟨(ax.add (k * 8)).block, (ax.add (k * 8)).off + 2, none⟩ = some (.int .i64 a2) ∧ Below W7.heap.size W7 U')) := fun U' hU => ⟨(HX7.out.below hU).w.c0, (HX7.out.below hU).w.c1, (HX7.out.below hU).w.c2, (HOL.out U' (below_next HD.out.bel hU) k _ HO.out).c2, hU⟩
                    have HC : Hid (∀ U' : World, (U'.cell? ⟨b1, 0, none⟩ = some (.int .i64 x.N) ∧ U'.cell? ⟨b1, 1, none⟩ = some (.slice x.dA x.dm x.dc) ∧ U'.cell? ⟨b1, 2, none⟩ = some (.slice x.tA x.tm x.tc) ∧ U'.cell? ⟨(ax.add (k * 8)).block, (ax.add (k * 8)).off + 2, none⟩ = some (.int .i64 a2) ∧ Below W7.heap.size W7 U') → Calls Tryz.prog 83 #[.agg #[.int .i64 x.N, .slice x.dA x.dm x.dc, .slice x.tA x.tm x.tc], .int .i64 nd, .int .i64 a2] U' fun e U'' => e = .returned (.tuple #[.int .i64 dd, .int .i64 tt, .int .i64 0]) ∧ (U''.cell? ⟨b1, 0, none⟩ = some (.int .i64 x.N) ∧ U''.cell? ⟨b1, 1, none⟩ = some (.slice x.dA x.dm x.dc) ∧ U''.cell? ⟨b1, 2, none⟩ = some (.slice x.tA x.tm x.tc) ∧ U''.cell? ⟨(ax.add (k * 8)).block, (ax.add (k * 8)).off + 2, none⟩ = some (.int .i64 a2) ∧ Below W7.heap.size W7 U'')) := by
                      rintro U' ⟨_, _, _, _, hU⟩
                      exact (rleg_b nd a2 dd tt 0 (HX7.out.below hU).w.at_.ar (Below.refl _ _) HLG.out).mono fun _ _ ⟨e1, e2⟩ => ⟨e1, HCE.out _ (below_next hU e2.out)⟩
                    have hB := (Below.refl W7.heap.size W7).drew
                    have y2 := (HOL.out W7 HD.out.bel k _ ho).c2
                    have i0 : (0 : Int) ≤ (k : Int) := by omega
                    have i1' : (k : Int) < (i : Int) := by omega
                    clear n1 n2 n3 ho hoo hn2 hleg hdd htt hnd
                    go_wp2
                    go_region_held3 (fun U' : World => (U'.cell? ⟨b1, 0, none⟩ = some (.int .i64 x.N) ∧ U'.cell? ⟨b1, 1, none⟩ = some (.slice x.dA x.dm x.dc) ∧ U'.cell? ⟨b1, 2, none⟩ = some (.slice x.tA x.tm x.tc) ∧ U'.cell? ⟨(ax.add (k * 8)).block, (ax.add (k * 8)).off + 2, none⟩ = some (.int .i64 a2) ∧ Below W7.heap.size W7 U')) (first | exact ⟨x0, x1, x2, y2, hB⟩ | exact ⟨k0, k1, k2, k3, kb⟩ | assumption)
                      (first
                        | (go_at_call 83; ((with_reducible refine (HC.out _ (by assumption)).mono ?_)); rintro e w8 ⟨rfl, k0, k1, k2, k3, kb⟩))
                    all_goals
                      have HD8 := Lib.hid (HD.out.below kb)
                      clear k0 k1 k2 k3 kb x0 x1 x2 y2 hB HC HCE
                      have c0 := (HOL.out w8 HD8.out.bel k _ HO.out).c0
                      simp only at c0
                      have HV9 : Hid (Box (w8.alloc (.cells #[.int .i64 a0, .int .i64 z, .int .i64 z, .int .i64 0] 117)) w8.heap.size #[.int .i64 a0, .int .i64 z, .int .i64 z, .int .i64 0] 117) := Box.new w8 _ _
                      have HB9 : Hid (Below w8.heap.size w8 (w8.alloc (.cells #[.int .i64 a0, .int .i64 z, .int .i64 z, .int .i64 0] 117))) := below_alloc w8 _
                      have HVG : Hid (w8.heap.size ≠ g ∧ ∀ ad, A = some ad → ad.block ≠ w8.heap.size) := ⟨by have := HD8.out.box.lt; omega, fun ad e => by have := ((OwnR.place HD8.out.own).2.2.2 ad e).2; omega⟩
                      go_wp2_with fail
                      clear c0
                      generalize w8.alloc (.cells #[.int .i64 a0, .int .i64 z, .int .i64 z, .int .i64 0] 117) = W9 at *
                      have hz0 : 0 ≤ z := by omega
                      have hz1 : z ≤ 30000000 := by omega
                      obtain ⟨vb, hvb⟩ : ∃ vb, vb = w8.heap.size := ⟨_, rfl⟩
                      rw [← hvb] at HV9 HVG ⊢
                      have HVL : Hid (w8.heap.size ≤ vb) := by unfold Hid; omega
                      clear hz hvb
                      have HO9 := Lib.hid (HOL.out W9 (below_next HD8.out.bel HB9.out) k _ HO.out)
                      have hmx : (a5 ≤ z ∧ y = z) ∨ (z < a5 ∧ y = a5) := by omega
                      obtain ⟨ob0, ob1, ob2, ob3⟩ := ob
                      have hya : 0 ≤ y ∧ y ≤ 30000000 := by omega
                      have hyw : IntKind.i64.wrap (y + a7) = y + a7 := IntWalk.i64_in _ (by omega)
                      have v2 : W9.cell? ⟨vb, 2, none⟩ = some (.int .i64 z) := HV9.out.cell 2 _ rfl
                      have v3 : W9.cell? ⟨vb, 3, none⟩ = some (.int .i64 0) := HV9.out.cell 3 _ rfl
                      have fv3 := HV9.out.fz 3
                      have fv2 := HV9.out.fz 2
                      have c5 := HO9.out.c5
                      have c7 := HO9.out.c7
                      simp only at c5 c7
                      have HY := Lib.hid hy
                      clear hy
                      go_wp2
                      go_upto_region 41 with fail
                      go_cut [165] (fun s165 W => s165 = .bool (decide (z < a5)) ∧ Hid (∃ q, W = W9.drewN q))
                      case first =>
                        rcases hmx with ⟨hm1, hm2⟩ | ⟨hm1, hm2⟩
                        · have dm : decide (z < a5) = false := decide_eq_false (by omega)
                          clear hm2
                          go_quiet (fail)
                          go_wp2
                          go_meet
                          case rel => exact ⟨by rw [dm], _, rfl⟩
                        · have dm : decide (z < a5) = true := decide_eq_true hm1
                          clear hm2
                          go_quiet (fail)
                          go_wp2
                          go_meet
                          case rel => exact ⟨by rw [dm], _, rfl⟩
                      case rest =>
                        obtain ⟨rfl, hcut⟩ := hcut
                        obtain ⟨q41, rfl⟩ := hcut.out
                        clear hcut
                        go_upto_if 165 with fail
                        go_cut [] (fun W => Hid (Box W vb #[.int .i64 a0, .int .i64 z, .int .i64 y, .int .i64 0] 117 ∧ Below w8.heap.size w8 W))
                        case first =>
                          rcases hmx with ⟨hm1, hm2⟩ | ⟨hm1, hm2⟩
                          · have dm : decide (z < a5) = false := decide_eq_false (by omega)
                            have HYZ := Lib.hid hm2
                            clear hm2
                            go_wp2
                            go_meet
                            case rel => exact ⟨by rw [HYZ.out]; exact HV9.out, HB9.out.trans ⟨rfl, rfl, rfl, Nat.le_refl _, fun _ _ => rfl⟩⟩
                          · have dm : decide (z < a5) = true := decide_eq_true hm1
                            have HYZ := Lib.hid hm2
                            clear hm2
                            go_wp2
                            go_meet
                            case rel => exact ⟨by rw [HYZ.out]; exact HV9.out.set 2 _ _ rfl, (HB9.out.setCell (p := ⟨vb, 2, none⟩) HVL.out _).trans ⟨rfl, rfl, rfl, Nat.le_refl _, fun _ _ => rfl⟩⟩
                        case rest =>
                          have HVA := Lib.hid hcut.out.1
                          have HBA := Lib.hid hcut.out.2
                          clear hcut HV9 HB9 HO9 v2 v3 fv2 fv3 c5 c7 hmx
                          generalize wc = WA at *
                          have HOA := Lib.hid (HOL.out WA (below_next HD8.out.bel HBA.out) k _ HO.out)
                          have v2 : WA.cell? ⟨vb, 2, none⟩ = some (.int .i64 y) := HVA.out.cell 2 _ rfl
                          have v3 : WA.cell? ⟨vb, 3, none⟩ = some (.int .i64 0) := HVA.out.cell 3 _ rfl
                          have fv3 := HVA.out.fz 3
                          have c7 := HOA.out.c7
                          simp only at c7
                          go_upto_region 43 with fail
                          go_cut [] (fun W => Hid (Box W vb #[.int .i64 a0, .int .i64 z, .int .i64 y, .int .i64 (y + a7)] 117 ∧ Below w8.heap.size w8 W))
                          case first =>
                            go_region
                            all_goals
                              clear v2 v3 fv3 c7 hyw
                              go_wp2
                              go_meet
                              case rel => exact ⟨HVA.out.set 3 _ _ rfl, (HBA.out.setCell (p := ⟨vb, 3, none⟩) HVL.out _).trans ⟨rfl, rfl, rfl, Nat.le_refl _, fun _ _ => rfl⟩⟩
                          case rest =>
                            have HVC := Lib.hid hcut.out.1
                            have HBC := Lib.hid hcut.out.2
                            clear hcut HVA HBA HOA v2 v3 fv3 c7 hyw
                            generalize wc = WC at *
                            have HOC := Lib.hid (HOL.out WC (below_next HD8.out.bel HBC.out) k _ HO.out)
                            have v2 : WC.cell? ⟨vb, 2, none⟩ = some (.int .i64 y) := HVC.out.cell 2 _ rfl
                            have c6 := HOC.out.c6
                            simp only at c6
                            obtain ⟨bn, hbn⟩ : ∃ bn, (bl || decide (a6 < y)) = bn := ⟨_, rfl⟩
                            have HBN : Hid (bn = !Rt.inTime x.N x.D x.T ⟨0, t3, 0⟩ ((Rt.ordersOf x.os r.st).take (k + 1))) := by
                              unfold Hid
                              rw [HN3.out, ← hbn, HBL.out]
                              by_cases h : y ≤ a6
                              · rw [decide_eq_true h, decide_eq_false (by omega : ¬ a6 < y)]
                                simp
                              · rw [decide_eq_false h, decide_eq_true (by omega : a6 < y)]
                                simp
                            have HBNE := Lib.hid hbn
                            clear hbn HBL
                            go_upto_region 44 with fail
                            go_cut [20] (fun s20 W => s20 = .bool bn ∧ Hid (∃ q, W = WC.drewN q))
                            case first =>
                              cases bl with
                              | true =>
                                have HBE : Hid (true = bn) := by have := HBNE.out; unfold Hid; simpa using this
                                go_quiet (fail)
                                go_wp2
                                go_meet
                                case rel => exact ⟨by rw [← HBE.out], _, rfl⟩
                              | false =>
                                cases hd6 : decide (a6 < y) with
                                | true =>
                                  have HBE : Hid (true = bn) := by have := HBNE.out; rw [hd6] at this; unfold Hid; simpa using this
                                  go_quiet (fail)
                                  go_wp2
                                  go_meet
                                  case rel => exact ⟨by rw [← HBE.out], _, rfl⟩
                                | false =>
                                  have HBE : Hid (false = bn) := by have := HBNE.out; rw [hd6] at this; unfold Hid; simpa using this
                                  go_quiet (fail)
                                  go_wp2
                                  go_meet
                                  case rel => exact ⟨by rw [← HBE.out], _, rfl⟩
                            case rest =>
                              obtain ⟨rfl, hcut⟩ := hcut
                              obtain ⟨q44, hq44⟩ := hcut.out
                              have HVD : Hid (Box wc vb #[.int .i64 a0, .int .i64 z, .int .i64 y, .int .i64 (y + a7)] 117) := by unfold Hid; rw [hq44]; exact HVC.out
                              have HBD : Hid (Below w8.heap.size w8 wc) := by unfold Hid; rw [hq44]; exact HBC.out.trans ⟨rfl, rfl, rfl, Nat.le_refl _, fun _ _ => rfl⟩
                              clear hcut hq44 HVC HBC HOC v2 c6 HBNE
                              generalize wc = WD at *
                              have HDD := Lib.hid (HD8.out.below HBD.out)
                              have hvl : (Rt.visits x.N x.D x.T ⟨0, t3, 0⟩ ((Rt.ordersOf x.os r.st).take (k + 1))).length = k + 1 := by rw [Rt.visits_len, List.length_take, HLO.out]; omega
                              have HA := Lib.hid (HDD.out.put a0 z y (y + a7) _ (k + 1) HN2.out hvl (by rw [Rt.visits_len, List.length_take]; omega) vb _ HVD.out HVG.out.1 HVG.out.2)
                              have g0c := HDD.out.box.cell 0 _ rfl
                              have v0 : WD.cell? ⟨vb, 0, none⟩ = some (.int .i64 a0) := HVD.out.cell 0 _ rfl
                              have v1 : WD.cell? ⟨vb, 1, none⟩ = some (.int .i64 z) := HVD.out.cell 1 _ rfl
                              have v2 : WD.cell? ⟨vb, 2, none⟩ = some (.int .i64 y) := HVD.out.cell 2 _ rfl
                              have v3 : WD.cell? ⟨vb, 3, none⟩ = some (.int .i64 (y + a7)) := HVD.out.cell 3 _ rfl
                              clear hvl
                              go_wp2_with (first
                                | (at_builtin; refine wpList_append_n rfl (.tmp 193) (.tmp 195) 85 85 rfl _ _ rfl rfl _ HA.out ?_; intro vv w9 hap; obtain ⟨A', cA', rfl, hp1, hp2, HP⟩ := hap; have hp3 := HP.out.2.cell 3 _ rfl; have hp4 := (HOL.out _ HP.out.1.bel k _ HO.out).c2))
                              go_roundg gi
                              case measure => omega
                              case rel => exact ⟨k + 1, a2, y + a7, dis + dd, bn, A', cA', _, rfl, by omega, rfl, rfl, rfl, by first | rfl | go_num, HN1.out, HP.out.1, HBN.out⟩
                  · have hke : k = i := by omega
                    have hot : (Rt.ordersOf x.os r.st).take k = Rt.ordersOf x.os r.st := List.take_of_length_le (by rw [HLO.out]; omega)
                    have hF1 := HFI.out
                    have hD1 := HD.out
                    have hB1 := HBL.out
                    rw [hot] at hF1 hD1 hB1
                    obtain ⟨hlate, hgood⟩ := Rt.drive_doc (t0 := t0) (t1 := t1) (t2 := t2) (t4 := t4) (t5 := t5) (t6 := t6) hF1 hB1
                    have hhome := Rt.home_tour (N := x.N) (D := x.D) (T := x.T) t3 (Rt.ordersOf x.os r.st)
                    rw [hF1] at hhome
                    have hhome2 : dis + Ar.at2 x.N x.D nd 0 = Ar.sumX x.N x.D (Ar.tourX ((Rt.ordersOf x.os r.st).map Ld.O.node)) := hhome
                    have htour := Rt.tour_of HOK.out HOD.out (by rw [HLO.out]; omega)
                    obtain ⟨q0, q1⟩ := HAR.out.at_d hnd HAR.out.has0
                    obtain ⟨q2, q3⟩ := HAR.out.at_t hnd HAR.out.has0
                    have hleg := legS_ok HOK.out hnd HAR.out.has0
                    obtain ⟨sx, hsx⟩ : ∃ sx, Ar.sumX x.N x.D (Ar.tourX ((Rt.ordersOf x.os r.st).map Ld.O.node)) = sx := ⟨_, rfl⟩
                    rw [hsx] at hhome2 htour hgood
                    generalize Ar.at2 x.N x.D nd 0 = dd at *
                    generalize Ar.at2 x.N x.T nd 0 = tt at *
                    obtain ⟨bk, hbk⟩ : ∃ bk, tim + tt = bk := ⟨_, rfl⟩
                    rw [hbk] at hlate hgood
                    have HLATE := Lib.hid hlate
                    have HGOOD := Lib.hid hgood
                    have HD1 := Lib.hid hD1
                    have HTOUR := Lib.hid htour
                    have sx0 : 0 ≤ sx ∧ sx ≤ 30000000 := by omega
                    have bk0 : 0 ≤ bk ∧ bk ≤ 30000000 := by omega
                    have f0x := HTOK.out.fx0
                    have f1x := HTOK.out.fx1
                    have r0x := HTOK.out.ra0
                    have r1x := HTOK.out.ra1
                    simp only at f0x f1x r0x r1x
                    have e4 : 0 ≤ t6 * sx := Int.mul_nonneg r0x sx0.1
                    have e5 : t6 * sx ≤ 30000000000 := by
                      have h1 : t6 * sx ≤ 1000 * sx := Int.mul_le_mul_of_nonneg_right r1x sx0.1
                      omega
                    have HC := Lib.hid (rleg_b (dc := x.dc) (tc := x.tc) nd 0 dd tt 0 HX7.out.w.at_.ar (Below.refl _ _) hleg)
                    clear hot hF1 hD1 hB1 hlate hgood hhome hhome2 htour hleg hsx hnd HFI HD HBL hke
                    go_wp2_with fail
                    with_reducible refine HC.out.mono ?_
                    rintro e w8 ⟨rfl, h8⟩
                    clear x0 x1 x2 HC
                    have HD8 := Lib.hid (HD1.out.below h8.out)
                    clear h8 HD1 HX7
                    have g1c : w8.cell? ⟨g, 1, none⟩ = some (.int .i64 0) := HD8.out.box.cell 1 _ rfl
                    have gf1 := HD8.out.box.fz 1
                    have HBE : Hid (Below w5.heap.size w5 (w8.setCell ⟨g, 1, none⟩ (.int .i64 bk))) := HD8.out.bel.setCell (p := ⟨g, 1, none⟩) HD8.out.hg _
                    have HXE := Lib.hid (HX5.out.below HBE.out)
                    have HTE := Lib.hid (HTB5.out.below HBE.out)
                    have HGE : Hid (Box (w8.setCell ⟨g, 1, none⟩ (.int .i64 bk)) g #[.slice A k cA, .int .i64 bk, .int .i64 0, .int .i64 0] 87) := HD8.out.box.set 1 _ _ rfl
                    have kk4 : (w8.setCell ⟨g, 1, none⟩ (.int .i64 bk)).cell? ⟨tb, 4, none⟩ = some (.int .i64 t4) := HTE.out.cell 4 _ rfl
                    have HWE := Lib.hid (below_next HB5.out HBE.out)
                    by_cases hbad : bl = true ∨ t4 < bk
                    · have HRE : Hid (Rt.err 10 = res) := by rw [← HDR.out]; exact (HLATE.out hbad).symm
                      cases bl with
                      | true =>
                        clear hbad
                        have z0 := HXE.out.o.cell 0 _ rfl
                        have f0 := HXE.out.o.fz 0
                        have n0 := HXE.out.z.cell 0 _ rfl
                        have z1 := HXE.out.o.cell 1 _ rfl
                        have f1 := HXE.out.o.fz 1
                        have n1 := HXE.out.z.cell 1 _ rfl
                        have z2 := HXE.out.o.cell 2 _ rfl
                        have f2 := HXE.out.o.fz 2
                        have n2 := HXE.out.z.cell 2 _ rfl
                        have z3 := HXE.out.o.cell 3 _ rfl
                        have f3 := HXE.out.o.fz 3
                        have n3 := HXE.out.z.cell 3 _ rfl
                        go_wp2
                        exact bodyPost_ret (results_dtrip (v := .int .i64 10) rfl _ (dtrip_set HXE.out.o _ _ _ _) rfl rfl rfl) rfl (TripPost.err HRE.out (below_set4 HWE.out _ HB3.out _ _ _ _))
                      | false =>
                        have dm : decide (t4 < bk) = true := decide_eq_true (by rcases hbad with h | h; cases h; exact h)
                        clear hbad
                        have z0 := HXE.out.o.cell 0 _ rfl
                        have f0 := HXE.out.o.fz 0
                        have n0 := HXE.out.z.cell 0 _ rfl
                        have z1 := HXE.out.o.cell 1 _ rfl
                        have f1 := HXE.out.o.fz 1
                        have n1 := HXE.out.z.cell 1 _ rfl
                        have z2 := HXE.out.o.cell 2 _ rfl
                        have f2 := HXE.out.o.fz 2
                        have n2 := HXE.out.z.cell 2 _ rfl
                        have z3 := HXE.out.o.cell 3 _ rfl
                        have f3 := HXE.out.o.fz 3
                        have n3 := HXE.out.z.cell 3 _ rfl
                        go_wp2
                        exact bodyPost_ret (results_dtrip (v := .int .i64 10) rfl _ (dtrip_set HXE.out.o _ _ _ _) rfl rfl rfl) rfl (TripPost.err HRE.out (below_set4 HWE.out _ HB3.out _ _ _ _))
                    · have hbl : bl = false := by cases bl with
                        | true => exact absurd (.inl rfl) hbad
                        | false => rfl
                      have hnl : ¬ t4 < bk := fun h => hbad (.inr h)
                      subst hbl
                      have HRE : Hid (_ = res) := (HGOOD.out rfl (by omega)).symm.trans HDR.out
                      have dm : decide (t4 < bk) = false := decide_eq_false hnl
                      clear hbad hnl HLATE HGOOD
                      have x0 := HXE.out.w.c0
                      have x1 := HXE.out.w.c1
                      have x2 := HXE.out.w.c2
                      have HLE := Lib.hid (HL6.out.below HBE.out)
                      have HC := Lib.hid (rtour_any x.N x.dA x.dm x.dc x.D x.tA x.tm x.tc x.T Y i cy ((Rt.ordersOf x.os r.st).map Ld.O.node) (w8.setCell ⟨g, 1, none⟩ (.int .i64 bk)) HXE.out.w.at_.ar HLE.out.orders.2.2.1 (by omega) HLE.out.orders.2.2.2)
                      rw [HTOUR.out] at HC
                      generalize (Ar.tourS x.N x.D x.T ((Rt.ordersOf x.os r.st).map Ld.O.node)).2.1 = s1 at *
                      generalize (Ar.tourS x.N x.D x.T ((Rt.ordersOf x.os r.st).map Ld.O.node)).2.2 = s2 at *
                      go_wp2_with fail
                      with_reducible refine HC.out.mono ?_
                      rintro e w9 ⟨rfl, h9⟩
                      clear x0 x1 x2 HC kk4 g1c gf1
                      have H9 := Lib.hid h9
                      have HG9 := Lib.hid (HGE.out.below h9)
                      have HB9 := Lib.hid (below_next HBE.out h9)
                      clear h9
                      have y0 := HG9.out.cell 0 _ rfl
                      have y1 := HG9.out.cell 1 _ rfl
                      have y2 := HG9.out.cell 2 _ rfl
                      have y3 := HG9.out.cell 3 _ rfl
                      have yf2 := HG9.out.fz 2
                      have yf3 := HG9.out.fz 3
                      have HBF2 : Hid (Below w5.heap.size w5 (w9.setCell ⟨g, 2, none⟩ (.int .i64 sx))) := HB9.out.setCell (p := ⟨g, 2, none⟩) HD8.out.hg _
                      have HBF : Hid (Below w5.heap.size w5 ((w9.setCell ⟨g, 2, none⟩ (.int .i64 sx)).setCell ⟨g, 3, none⟩ (.int .i64 (t5 + t6 * sx)))) := HBF2.out.setCell (p := ⟨g, 3, none⟩) HD8.out.hg _
                      have kk5 : (w9.setCell ⟨g, 2, none⟩ (.int .i64 sx)).cell? ⟨tb, 5, none⟩ = some (.int .i64 t5) := (HTB5.out.below HBF2.out).cell 5 _ rfl
                      have kk6 : (w9.setCell ⟨g, 2, none⟩ (.int .i64 sx)).cell? ⟨tb, 6, none⟩ = some (.int .i64 t6) := (HTB5.out.below HBF2.out).cell 6 _ rfl
                      have HXF := Lib.hid (HX5.out.below HBF.out)
                      have z0 := HXF.out.o.cell 0 _ rfl
                      have z1 := HXF.out.o.cell 1 _ rfl
                      have z2 := HXF.out.o.cell 2 _ rfl
                      have z3 := HXF.out.o.cell 3 _ rfl
                      have f0 := HXF.out.o.fz 0
                      have f1 := HXF.out.o.fz 1
                      have f2 := HXF.out.o.fz 2
                      have f3 := HXF.out.o.fz 3
                      have HWF := Lib.hid (below_next HB5.out HBF.out)
                      have HOW := Lib.hid (OwnR.place HD8.out.own)
                      have HB5s : Hid (w.heap.size ≤ w5.heap.size ∧ b3 < w5.heap.size) := ⟨HB5.out.size, HX5.out.o.lt⟩
                      have HGG := Lib.hid HD8.out.hg
                      go_wp2
                      refine bodyPost_ret (results_dtrip (v := .int .i64 0) rfl _ (dtrip_set HXF.out.o _ _ _ _) rfl rfl rfl) rfl ?_
                      rw [← HRE.out]
                      obtain ⟨o1, o2, o3, o4⟩ := HOW.out
                      have o5 := HB5s.out
                      have o6 := HGG.out
                      refine ⟨A, cA, by simp only [o1], below_set4 HWF.out _ HB3.out _ _ _ _, ?_, by show _ ≤ cA; rw [o1]; exact o2, fun ad e => by have := (o4 ad e).1; omega⟩
                      refine IntsAt.blocks o3 fun ad e => ?_
                      have h1 := (o4 ad e).1
                      have h2 := (o4 ad e).2
                      rw [but_set4 _ _ _ _ _ _ _ (by omega), Go.Deep.blk_setCell_other _ _ _ _ (by show ad.block ≠ g; omega), Go.Deep.blk_setCell_other _ _ _ _ (by show ad.block ≠ g; omega), H9.out.block ad.block (by rw [Go.Deep.nblk_setCell]; exact h2), Go.Deep.blk_setCell_other _ _ _ _ (by show ad.block ≠ g; omega)]
              · have HRE : Hid (Rt.err ce = res) := by
                  have h4 := HCE.out
                  rw [← HT.out] at h4
                  rw [← HRES.out]
                  exact (Rt.run_load HF.out HLEN.out HTN.out HALL.out HT2.out.symm h4 hc0).symm
                have e6 : (ce != (0 : Int)) = true := bne_iff_ne.2 hc0
                clear hc0
                have z0 := HX5.out.o.cell 0 _ rfl
                have f0 := HX5.out.o.fz 0
                have n0 := HX5.out.z.cell 0 _ rfl
                have z1 := HX5.out.o.cell 1 _ rfl
                have f1 := HX5.out.o.fz 1
                have n1 := HX5.out.z.cell 1 _ rfl
                have z2 := HX5.out.o.cell 2 _ rfl
                have f2 := HX5.out.o.fz 2
                have n2 := HX5.out.z.cell 2 _ rfl
                have z3 := HX5.out.o.cell 3 _ rfl
                have f3 := HX5.out.o.fz 3
                have n3 := HX5.out.z.cell 3 _ rfl
                go_wp2
                exact bodyPost_ret (results_dtrip (v := .int .i64 ce) rfl _ (dtrip_set HX5.out.o _ _ _ _) rfl rfl rfl) rfl (TripPost.err HRE.out (below_set4 HB5.out _ HB3.out _ _ _ _))
  · have HRE : Hid (Rt.err f = res) := by rw [← HRES.out]; exact (Rt.run_world HF.out hf0).symm
    have e1 : (f != (0 : Int)) = true := bne_iff_ne.2 hf0
    clear hf0
    have z0 := HX1.out.o.cell 0 _ rfl
    have f0 := HX1.out.o.fz 0
    have n0 := HX1.out.z.cell 0 _ rfl
    have z1 := HX1.out.o.cell 1 _ rfl
    have f1 := HX1.out.o.fz 1
    have n1 := HX1.out.z.cell 1 _ rfl
    have z2 := HX1.out.o.cell 2 _ rfl
    have f2 := HX1.out.o.fz 2
    have n2 := HX1.out.z.cell 2 _ rfl
    have z3 := HX1.out.o.cell 3 _ rfl
    have f3 := HX1.out.o.fz 3
    have n3 := HX1.out.z.cell 3 _ rfl
    go_wp2
    exact bodyPost_ret (results_dtrip (v := .int .i64 f) rfl _ (dtrip_set HX1.out.o _ _ _ _) rfl rfl rfl) rfl (TripPost.err HRE.out (below_set4 HBW.out _ HB3.out _ _ _ _))
end Go.Proofs.YtgjmlnpfkmpfgaaGreat
