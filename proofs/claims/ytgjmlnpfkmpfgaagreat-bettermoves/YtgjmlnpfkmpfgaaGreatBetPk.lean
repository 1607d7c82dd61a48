/- Package better: the iterator of what comes of each move of a plan. -/
import Derived.Test.YtgjmlnpfkmpfgaaGreatBetPij
import Derived.Deep.CutRange
namespace Go.Proofs.YtgjmlnpfkmpfgaaGreat
open Go.RowKit Go.Shelf
set_option linter.unusedVariables false
set_option maxRecDepth 100000
attribute [local go_sem] Oper.semAt_some

/-- the moves, kind by kind -/
def kinds (ps : List Pl.Ro) (us ids : List Int) (m : Nat) : Nat → List (List Pl.Ro)
  | 0 => Bt.ins3 ps us
  | 1 => Bt.open2 ps us ids
  | 2 => Bt.mov4 ps m
  | 3 => Bt.trn3 ps m
  | _ => Bt.swp4 ps m
theorem kinds_all (ps : List Pl.Ro) (us ids : List Int) : Bt.movesL ps us ids = ((List.range 5).flatMap (kinds ps us ids ps.length)).map Bt.made := by
  have e : List.range 5 = [0, 1, 2, 3, 4] := by decide
  unfold Bt.movesL Bt.moreL Bt.movedL Bt.swapL
  rw [e]
  simp [kinds, List.append_assoc]
def fnv (x : Nat × Array Value) : Value := .func (.func x.1) #[] x.2
def GG (sb g : Nat) (lv : Array Value) (L : List (List Pl.Ro)) (U : World) : Prop := ∃ w0, Gives sb Tryz.prog g lv RV L w0 ∧ KM sb w0 U
theorem GG.below {sb g : Nat} {lv : Array Value} {L : List (List Pl.Ro)} {U W : World} (h : GG sb g lv L U) (hk : MnOk sb U) (hb : Below U.heap.size U W) : GG sb g lv L W := by
  obtain ⟨w0, h1, h2⟩ := h
  exact ⟨w0, h1, h2.trans (KM.below hk hb)⟩
/-- what each kind's iterator needs -/
def Need (bp bw : Nat) (p : Pd) (x : Wd) (U : World) : Prop := Box U bp p.cells 32 ∧ PlS U p ∧ WX U bw x
structure MkPost (sb : Nat) (V U : World) (g n : Nat) (L : List (List Pl.Ro)) (lv : Array Value) (w' : World) : Prop where
  bel : Below V.heap.size V w'
  nxt : Below U.heap.size U w'
  gg : GG sb g lv L w'

set_option maxHeartbeats 4000000 in
theorem tri1_b (sb bp bw B0 : Nat) (p : Pd) (x : Wd) (w : World) (hB : B0 ≤ w.heap.size) (hs : Stay sb w fun U => Box U bp p.cells 32 ∧ PlS U p ∧ WX U bw x) :
    Gives sb Tryz.prog 43 #[.pointer (some ⟨bp, 0, none⟩), .pointer (some ⟨bw, 0, none⟩)] (PV sb B0 x.os) (Bt.movesL (ros p.rs) p.us (x.ts.map Ld.T.id)) w := by
  intro l0 J Jx W hW hJ hJx hM hY h0
  have HS := Lib.hid (hs.step hW)
  have HY := Lib.hid hY
  have HM := Lib.hid hM
  have HJ := Lib.hid hJ
  have HJX := Lib.hid hJx
  have HBW : Hid (B0 ≤ W.heap.size) := Nat.le_trans hB hW.size
  have HLM : Hid ((ros p.rs).length = p.rm) := by rw [ros_len]; exact HS.out.now.2.1.rts.len
  have HV : Hid (Stay sb (W.alloc (.cells #[.func (.yield l0) #[] #[]] 57)) fun U => Box U W.heap.size #[.func (.yield l0) #[] #[]] 57) := stay_new (hM 0 W h0) _ _
  have HKV : Hid (KM sb W (W.alloc (.cells #[.func (.yield l0) #[] #[]] 57))) := KM.below (hM 0 W h0) (below_alloc _ _)
  have H0 : Hid (J 0 (W.alloc (.cells #[.func (.yield l0) #[] #[]] 57))) := own_below hJ h0 (below_alloc _ _)
  clear hs hW hJ hJx hM hY h0 hB
  refine callsIn_of_wp_marks Tryz.func43 rfl trivial ?_ rfl
  simp only [Tryz.ntmps43, List.size_toArray, List.length_cons, List.length_nil, Nat.reduceAdd, Nat.reduceSub, Array.replicate_succ, Array.replicate_zero, List.push_toArray, List.append_toArray, List.nil_append, List.cons_append]
  gi_wp2
  generalize hV0 : W.alloc (.cells #[.func (.yield l0) #[] #[]] 57) = V0 at *
  clear hV0
  have HK0 : Hid (MnOk sb V0) := HM.out _ _ H0.out
  have HSV := Lib.hid (HS.out.step HKV.out)
  have HN := Lib.hid HSV.out.now
  have HSY : Hid (∀ U, Below V0.heap.size V0 U → U.cell? ⟨bp, 0, none⟩ = some (.slice p.rA p.rm p.rc) ∧ U.cell? ⟨bp, 1, none⟩ = some (.slice p.uA p.um p.uc) ∧ U.cell? ⟨bw, 0, none⟩ = some (.int .i64 x.N) ∧ U.cell? ⟨bw, 1, none⟩ = some (.slice x.dA x.dm x.dc) ∧ U.cell? ⟨bw, 2, none⟩ = some (.slice x.tA x.tm x.tc) ∧ U.cell? ⟨bw, 3, none⟩ = some (.slice x.A x.m x.c) ∧ U.cell? ⟨bw, 4, none⟩ = some (.slice x.B x.k x.d) ∧ Below V0.heap.size V0 U) := fun U hU =>
    ⟨(HN.out.1.below hU).cell 0 _ rfl, (HN.out.1.below hU).cell 1 _ rfl, (HN.out.2.2.below hU).c0, (HN.out.2.2.below hU).c1, (HN.out.2.2.below hU).c2, (HN.out.2.2.below hU).c3, (HN.out.2.2.below hU).c4, hU⟩
  have HBd : Hid (Below V0.heap.size V0 V0.drew) := ⟨rfl, rfl, rfl, Nat.le_refl _, fun _ _ => rfl⟩
  obtain ⟨y0, y1, y2, y3, y4, y5, y6, _⟩ := HSY.out V0 (Below.refl _ _)
  -- one box of the plan, for an iterator of one box
  have HP1 : Hid (∀ U, Below V0.heap.size V0 U → MnOk sb U ∧ Below U.heap.size U (U.alloc (.cells #[.slice p.rA p.rm p.rc, .slice p.uA p.um p.uc] 32)) ∧ Stay sb (U.alloc (.cells #[.slice p.rA p.rm p.rc, .slice p.uA p.um p.uc] 32)) fun U2 => Box U2 U.heap.size p.cells 32 ∧ PlS U2 p) := fun U hU => by
    have hk := HK0.out.below hU
    refine ⟨hk, below_alloc _ _, (stay_new hk p.cells 32).and ?_⟩
    exact (HSV.out.step ((KM.below HK0.out hU).trans (KM.below hk (below_alloc _ _)))).imp fun U2 h => h.2.1
  have HC1 : Hid (∀ U, Below V0.heap.size V0 U → Calls Tryz.prog 44 #[.agg #[.slice p.rA p.rm p.rc, .slice p.uA p.um p.uc]] U fun e w' => ∃ b, e = .returned (.func (.func 67) #[] #[.pointer (some ⟨b, 0, none⟩)]) ∧ Hid (MkPost sb V0 U 67 0 (kinds (ros p.rs) p.us (x.ts.map Ld.T.id) p.rm 0) #[.pointer (some ⟨b, 0, none⟩)] w')) := fun U hU =>
    (inserts_b p U).mono fun e w' ⟨e1, e2⟩ => by
      obtain ⟨h1, h2, h3⟩ := HP1.out U hU
      subst e2
      exact ⟨_, e1, below_next hU h2, h2, _, ins1_b sb _ p _ h3, KM.refl _ _⟩
  have HC3 : Hid (∀ U, Below V0.heap.size V0 U → Calls Tryz.prog 46 #[.agg #[.slice p.rA p.rm p.rc, .slice p.uA p.um p.uc]] U fun e w' => ∃ b, e = .returned (.func (.func 71) #[] #[.pointer (some ⟨b, 0, none⟩)]) ∧ Hid (MkPost sb V0 U 71 2 (kinds (ros p.rs) p.us (x.ts.map Ld.T.id) p.rm 2) #[.pointer (some ⟨b, 0, none⟩)] w')) := fun U hU =>
    (moves_b p U).mono fun e w' ⟨e1, e2⟩ => by
      obtain ⟨h1, h2, h3⟩ := HP1.out U hU
      subst e2
      exact ⟨_, e1, below_next hU h2, h2, _, mov1_b sb _ p _ h3, KM.refl _ _⟩
  have HC4 : Hid (∀ U, Below V0.heap.size V0 U → Calls Tryz.prog 47 #[.agg #[.slice p.rA p.rm p.rc, .slice p.uA p.um p.uc]] U fun e w' => ∃ b, e = .returned (.func (.func 74) #[] #[.pointer (some ⟨b, 0, none⟩)]) ∧ Hid (MkPost sb V0 U 74 3 (kinds (ros p.rs) p.us (x.ts.map Ld.T.id) p.rm 3) #[.pointer (some ⟨b, 0, none⟩)] w')) := fun U hU =>
    (turns_b p U).mono fun e w' ⟨e1, e2⟩ => by
      obtain ⟨h1, h2, h3⟩ := HP1.out U hU
      subst e2
      exact ⟨_, e1, below_next hU h2, h2, _, trn1_b sb _ p _ h3, KM.refl _ _⟩
  have HC5 : Hid (∀ U, Below V0.heap.size V0 U → Calls Tryz.prog 48 #[.agg #[.slice p.rA p.rm p.rc, .slice p.uA p.um p.uc]] U fun e w' => ∃ b, e = .returned (.func (.func 76) #[] #[.pointer (some ⟨b, 0, none⟩)]) ∧ Hid (MkPost sb V0 U 76 4 (kinds (ros p.rs) p.us (x.ts.map Ld.T.id) p.rm 4) #[.pointer (some ⟨b, 0, none⟩)] w')) := fun U hU =>
    (swaps_b p U).mono fun e w' ⟨e1, e2⟩ => by
      obtain ⟨h1, h2, h3⟩ := HP1.out U hU
      subst e2
      exact ⟨_, e1, below_next hU h2, h2, _, swp0_b sb _ p _ h3, KM.refl _ _⟩
  have HC2 : Hid (∀ U, Below V0.heap.size V0 U → Calls Tryz.prog 45 #[.agg #[.int .i64 x.N, .slice x.dA x.dm x.dc, .slice x.tA x.tm x.tc, .slice x.A x.m x.c, .slice x.B x.k x.d], .agg #[.slice p.rA p.rm p.rc, .slice p.uA p.um p.uc]] U fun e w' => ∃ b c, e = .returned (.func (.func 69) #[] #[.pointer (some ⟨b, 0, none⟩), .pointer (some ⟨c, 0, none⟩)]) ∧ Hid (MkPost sb V0 U 69 1 (kinds (ros p.rs) p.us (x.ts.map Ld.T.id) p.rm 1) #[.pointer (some ⟨b, 0, none⟩), .pointer (some ⟨c, 0, none⟩)] w')) := fun U hU =>
    (opens_b x p U).mono fun e w' ⟨e1, e2⟩ => by
      have hk := HK0.out.below hU
      have ha : Below U.heap.size U (U.alloc (.cells #[.int .i64 x.N, .slice x.dA x.dm x.dc, .slice x.tA x.tm x.tc, .slice x.A x.m x.c, .slice x.B x.k x.d] 28)) := below_alloc _ _
      have hk1 := hk.below ha
      have hU1 := below_next hU ha
      obtain ⟨_, h2, h3⟩ := HP1.out _ hU1
      have hw := stay_new hk #[.int .i64 x.N, .slice x.dA x.dm x.dc, .slice x.tA x.tm x.tc, .slice x.A x.m x.c, .slice x.B x.k x.d] 28
      rw [show (U.alloc (.cells #[.int .i64 x.N, .slice x.dA x.dm x.dc, .slice x.tA x.tm x.tc, .slice x.A x.m x.c, .slice x.B x.k x.d] 28)).heap.size = U.heap.size + 1 by simp] at h3
      subst e2
      refine ⟨_, _, e1, below_next hU1 h2, below_next ha h2, _, opn1_b sb _ _ p x _ fun U2 hU2 => ?_, KM.refl _ _⟩
      have h4 := h3 U2 hU2
      exact ⟨h4.1, h4.2, hw U2 ((KM.below hk1 h2).trans hU2), (HSV.out _ ((KM.below HK0.out hU1).trans ((KM.below hk1 h2).trans hU2))).2.2.at_⟩
  refine wpIn_wide.2 ?_
  go_cut [18, 19, 20] from 7 to 20 (fun s18 s19 s20 Wc => ∃ (aa : Addr) (V2 : World) (gs : List (Nat × Array Value)), V2 = Wc ∧ s18 = .slice (some aa) 5 5 ∧ s19 = .int .i64 5 ∧ s20 = .int .i64 0 ∧ Hid (Below V0.heap.size V0 V2) ∧ Hid (gs.length = 5) ∧ Hid (∀ k (g : Nat) lv, gs[k]? = some (g, lv) → (Stay sb V2 fun U => U.cell? (aa.add k) = some (.func (.func g) #[] lv)) ∧ (∀ args w, (callFunc g args).run Tryz.prog w = .ok (.enter g args) w) ∧ GG sb g lv (kinds (ros p.rs) p.us (x.ts.map Ld.T.id) p.rm k) V2))
  case first =>
    go_region_held3 (fun U : World => U.cell? ⟨bp, 0, none⟩ = some (.slice p.rA p.rm p.rc) ∧ U.cell? ⟨bp, 1, none⟩ = some (.slice p.uA p.um p.uc) ∧ U.cell? ⟨bw, 0, none⟩ = some (.int .i64 x.N) ∧ U.cell? ⟨bw, 1, none⟩ = some (.slice x.dA x.dm x.dc) ∧ U.cell? ⟨bw, 2, none⟩ = some (.slice x.tA x.tm x.tc) ∧ U.cell? ⟨bw, 3, none⟩ = some (.slice x.A x.m x.c) ∧ U.cell? ⟨bw, 4, none⟩ = some (.slice x.B x.k x.d) ∧ Below V0.heap.size V0 U) (first | exact HSY.out _ HBd.out | exact HSY.out _ h5.out.bel | exact HSY.out _ h4.out.bel | exact HSY.out _ h3.out.bel | exact HSY.out _ h2.out.bel | exact HSY.out _ h1.out.bel | exact HSY.out _ (below_next h5.out.bel (below_alloc _ _)) | assumption) (first
      | (go_at_call 44; with_reducible refine (HC1.out _ HBd.out).mono ?_; rintro e w1 ⟨b1, rfl, h1⟩)
      | (go_at_call 45; with_reducible refine (HC2.out _ h1.out.bel).mono ?_; rintro e w2 ⟨b2, c2, rfl, h2⟩)
      | (go_at_call 46; with_reducible refine (HC3.out _ h2.out.bel).mono ?_; rintro e w3 ⟨b3, rfl, h3⟩)
      | (go_at_call 47; with_reducible refine (HC4.out _ h3.out.bel).mono ?_; rintro e w4 ⟨b4, rfl, h4⟩)
      | (go_at_call 48; with_reducible refine (HC5.out _ h4.out.bel).mono ?_; rintro e w5 ⟨b5, rfl, h5⟩))
    all_goals
      clear y0 y1 y2 y3 y4 y5 y6
      go_wp2
      refine Met.intro ?_
      go_step
      iterate 30 (first | apply Exists.intro | skip)
      refine ⟨?_, rfl⟩
      case _ =>
        have hk1 := HK0.out.below h1.out.bel
        have hk2 := HK0.out.below h2.out.bel
        have hk3 := HK0.out.below h3.out.bel
        have hk4 := HK0.out.below h4.out.bel
        have hk5 := HK0.out.below h5.out.bel
        have ha := below_alloc w5 (.cells #[.func (.func 67) #[] #[.pointer (some ⟨b1, 0, none⟩)], .func (.func 69) #[] #[.pointer (some ⟨b2, 0, none⟩), .pointer (some ⟨c2, 0, none⟩)], .func (.func 71) #[] #[.pointer (some ⟨b3, 0, none⟩)], .func (.func 74) #[] #[.pointer (some ⟨b4, 0, none⟩)], .func (.func 76) #[] #[.pointer (some ⟨b5, 0, none⟩)]] 80)
        have hst := stay_new hk5 #[.func (.func 67) #[] #[.pointer (some ⟨b1, 0, none⟩)], .func (.func 69) #[] #[.pointer (some ⟨b2, 0, none⟩), .pointer (some ⟨c2, 0, none⟩)], .func (.func 71) #[] #[.pointer (some ⟨b3, 0, none⟩)], .func (.func 74) #[] #[.pointer (some ⟨b4, 0, none⟩)], .func (.func 76) #[] #[.pointer (some ⟨b5, 0, none⟩)]] 80
        have hcell : ∀ (k : Nat) (v : Value), (#[.func (.func 67) #[] #[.pointer (some ⟨b1, 0, none⟩)], .func (.func 69) #[] #[.pointer (some ⟨b2, 0, none⟩), .pointer (some ⟨c2, 0, none⟩)], .func (.func 71) #[] #[.pointer (some ⟨b3, 0, none⟩)], .func (.func 74) #[] #[.pointer (some ⟨b4, 0, none⟩)], .func (.func 76) #[] #[.pointer (some ⟨b5, 0, none⟩)]] : Array Value)[k]? = some v → Stay sb (w5.alloc (.cells #[.func (.func 67) #[] #[.pointer (some ⟨b1, 0, none⟩)], .func (.func 69) #[] #[.pointer (some ⟨b2, 0, none⟩), .pointer (some ⟨c2, 0, none⟩)], .func (.func 71) #[] #[.pointer (some ⟨b3, 0, none⟩)], .func (.func 74) #[] #[.pointer (some ⟨b4, 0, none⟩)], .func (.func 76) #[] #[.pointer (some ⟨b5, 0, none⟩)]] 80)) fun U => U.cell? ((⟨w5.heap.size, 0, none⟩ : Addr).add k) = some v := fun k v hv => hst.imp fun U h => by
          rw [add_flat, Nat.zero_add]
          exact h.cell k _ hv
        refine ⟨⟨w5.heap.size, 0, none⟩, _, [(67, #[.pointer (some ⟨b1, 0, none⟩)]), (69, #[.pointer (some ⟨b2, 0, none⟩), .pointer (some ⟨c2, 0, none⟩)]), (71, #[.pointer (some ⟨b3, 0, none⟩)]), (74, #[.pointer (some ⟨b4, 0, none⟩)]), (76, #[.pointer (some ⟨b5, 0, none⟩)])], rfl, rfl, rfl, rfl, below_next h5.out.bel ha, rfl, fun k g lv hk => ?_⟩
        match k with
        | 0 =>
          obtain ⟨rfl, rfl⟩ := Prod.mk.inj (Option.some.inj hk)
          exact ⟨hcell 0 _ rfl, enters_of Tryz.func67 (by kernel_rfl) rfl, ((((h1.out.gg.below hk1 h2.out.nxt).below hk2 h3.out.nxt).below hk3 h4.out.nxt).below hk4 h5.out.nxt).below hk5 ha⟩
        | 1 =>
          obtain ⟨rfl, rfl⟩ := Prod.mk.inj (Option.some.inj hk)
          exact ⟨hcell 1 _ rfl, enters_of Tryz.func69 (by kernel_rfl) rfl, (((h2.out.gg.below hk2 h3.out.nxt).below hk3 h4.out.nxt).below hk4 h5.out.nxt).below hk5 ha⟩
        | 2 =>
          obtain ⟨rfl, rfl⟩ := Prod.mk.inj (Option.some.inj hk)
          exact ⟨hcell 2 _ rfl, enters_of Tryz.func71 (by kernel_rfl) rfl, ((h3.out.gg.below hk3 h4.out.nxt).below hk4 h5.out.nxt).below hk5 ha⟩
        | 3 =>
          obtain ⟨rfl, rfl⟩ := Prod.mk.inj (Option.some.inj hk)
          exact ⟨hcell 3 _ rfl, enters_of Tryz.func74 (by kernel_rfl) rfl, (h4.out.gg.below hk4 h5.out.nxt).below hk5 ha⟩
        | 4 =>
          obtain ⟨rfl, rfl⟩ := Prod.mk.inj (Option.some.inj hk)
          exact ⟨hcell 4 _ rfl, enters_of Tryz.func76 (by kernel_rfl) rfl, h5.out.gg.below hk5 ha⟩
        | k + 5 => simp at hk
  case rest =>
    obtain ⟨aa, V2, gs, rfl, rfl, rfl, rfl, HB2, HGL, HGS⟩ := hcut
    have HKV2 : Hid (KM sb V0 V2) := KM.below HK0.out HB2.out
    have HJ0 : Hid (J 0 V2) := own_below HJ.out H0.out HB2.out
    have HALL : Hid (Bt.movesL (ros p.rs) p.us (x.ts.map Ld.T.id) = ((List.range 5).flatMap (kinds (ros p.rs) p.us (x.ts.map Ld.T.id) p.rm)).map Bt.made) := by
      have := kinds_all (ros p.rs) p.us (x.ts.map Ld.T.id)
      rw [HLM.out] at this
      exact this
    clear y0 y1 y2 y3 y4 y5 y6 HC1 HC2 HC3 HC4 HC5 HP1 HSY HBd H0
    generalize kinds (ros p.rs) p.us (x.ts.map Ld.T.id) p.rm = L at *
    have HAT : Hid (∀ (k j : Nat) (y : List Pl.Ro), k < 5 → (L k)[j]? = some y → (Bt.movesL (ros p.rs) p.us (x.ts.map Ld.T.id))[((List.range k).flatMap L).length + j]? = some (Bt.made y)) := fun k j y hk hy => by
      rw [HALL.out, List.getElem?_map, flat_at L hk (List.getElem?_eq_some_iff.1 hy).1, hy]; rfl
    have HEND : Hid ((Bt.movesL (ros p.rs) p.us (x.ts.map Ld.T.id)).length = ((List.range 5).flatMap L).length) := by
      unfold Hid
      rw [HALL.out, List.length_map]
    have HLN : Hid (∀ k, ((List.range (k + 1)).flatMap L).length = ((List.range k).flatMap L).length + (L k).length) := fun k => by rw [Bt.flat_range, List.length_append]
    clear HALL
    gi_wp2
    refine wpIn_loop_fr 20 [5, 6, 21, 22, 23, 24, 26, 27, 28, 29, 30, 31, 32] (fun s20 ds U => ∃ (k : Nat), k ≤ 5 ∧ s20 = .int .i64 (k : Int) ∧ Hid (J ((List.range k).flatMap L).length U) ∧ Hid (KM sb V2 U) ∧ Hid (Mks W.heap.size ds U)) (fun s20 => 5 - (intOf s20).toNat) rfl (by kernel_rfl) ?atStart ?round
    case atStart => exact ⟨0, by omega, rfl, HJ0.out, KM.refl _ _, Mks.nil _ _⟩
    case round =>
      intro s20 u5 u6 u21 u22 u23 u24 u26 u27 u28 u29 u30 u31 u32 ds wr hrel
      conv => arg 6; simp only [fillL, List.set_cons_succ, List.set_cons_zero]
      obtain ⟨k, hk, rfl, HJk, HK, HMK⟩ := hrel
      clear HJ0
      by_cases hlt : k < 5
      · obtain ⟨⟨g, lv⟩, hg⟩ : ∃ z, gs[k]? = some z := ⟨_, List.getElem?_eq_getElem (by rw [HGL.out]; exact hlt)⟩
        obtain ⟨hc, hent, w0, hG, hkm0⟩ := HGS.out k g lv hg
        have d1 : decide ((k : Int) < (5 : Int)) = true := decide_eq_true (by omega)
        have i2 : (k : Int) < (5 : Int) := by omega
        have z0 : wr.cell? (aa.add k) = some (.func (.func g) #[] lv) := (hc.step HK.out).now
        have HG := Lib.hid hG
        have HKM0 : Hid (KM sb w0 wr) := hkm0.trans HK.out
        have HENT := Lib.hid hent
        have HWS : Hid (W.heap.size ≤ wr.heap.size) := (HKV.out.trans (HKV2.out.trans HK.out)).size
        clear hg hc hG hkm0 hent
        gi_wp2
        clear z0
        refine range_up (sb := sb) (gf := g) (lv := lv) rfl HENT.out rv_own HG.out HKM0.out
          (fun j U => J (((List.range k).flatMap L).length + j) U ∧ Mks W.heap.size ds U) (fun c U => c = .ret ∧ Jx U ∧ Mks W.heap.size ds U)
          (fun j A B row h hg hr => ⟨(OwnFrom.up HJ.out HWS.out) _ A B row h.1 hg hr, (Mks.own W.heap.size wr.heap.size ds HMK.out.lt) () A B row h.2 hg hr⟩)
          (fun c _ A B row h hg hr => ⟨h.1, (OwnFrom.up HJX.out HWS.out) () A B row h.2.1 hg hr, (Mks.own W.heap.size wr.heap.size ds HMK.out.lt) () A B row h.2.2 hg hr⟩)
          (fun j U h => HM.out _ _ h.1) ⟨HJk.out, HMK.out⟩ (fun v T => (T.setIfInBounds 25 v).setIfInBounds 6 v) ?assign ?body ?done ?stop
        case assign =>
          intro l v U K hK
          gi_wp2
          simpa using hK
        case body =>
          rintro l j y v U hx ⟨hJj, hmk⟩ hkm ⟨A, m, c, rl, rfl, hrt, hro⟩
          have HJj := Lib.hid hJj
          have HMKj := Lib.hid hmk
          have HKMj := Lib.hid hkm
          have HX := Lib.hid hx
          have HKU : Hid (MnOk sb U) := HM.out _ _ hJj
          have HKW : Hid (KM sb V0 U) := HKV2.out.trans (HK.out.trans hkm)
          have HSU := Lib.hid (HSV.out.step HKW.out).now
          have HYB := Lib.hid (HV.out.step HKW.out).now
          have HBU : Hid (B0 ≤ U.heap.size) := Nat.le_trans HBW.out (HKV.out.trans HKW.out).size
          have HSY : Hid (∀ U2, Below U.heap.size U U2 → U2.cell? ⟨W.heap.size, 0, none⟩ = some (.func (.yield l0) #[] #[]) ∧ U2.cell? ⟨bw, 0, none⟩ = some (.int .i64 x.N) ∧ U2.cell? ⟨bw, 1, none⟩ = some (.slice x.dA x.dm x.dc) ∧ U2.cell? ⟨bw, 2, none⟩ = some (.slice x.tA x.tm x.tc) ∧ U2.cell? ⟨bw, 3, none⟩ = some (.slice x.A x.m x.c) ∧ U2.cell? ⟨bw, 4, none⟩ = some (.slice x.B x.k x.d) ∧ Below U.heap.size U U2) := fun U2 hU =>
            ⟨ints_row (HYB.out.below hU), (HSU.out.2.2.below hU).c0, (HSU.out.2.2.below hU).c1, (HSU.out.2.2.below hU).c2, (HSU.out.2.2.below hU).c3, (HSU.out.2.2.below hU).c4, hU⟩
          have HBd : Hid (Below U.heap.size U U.drew) := ⟨rfl, rfl, rfl, Nat.le_refl _, fun _ _ => rfl⟩
          obtain ⟨y0, y1, y2, y3, y4, y5, _⟩ := HSY.out U (Below.refl _ _)
          have hd := HBd.out
          have HPO := Lib.hid ((planOf_b x A m c rl U.drew (HSU.out.2.2.at_.below hd) hrt.len (by have := hrt.mx; omega) (hrt.rows.below hd) (fun r hr => (hrt.ra r hr).1.below hd) (by
              have h1 := stops_le rl 30 (fun r hr => by rw [(hrt.ra r hr).1.sl]; exact (hrt.ra r hr).2)
              have h2 := hrt.len
              have h3 := hrt.mx
              have h4 : rl.length * 30 ≤ 10 * 30 := Nat.mul_le_mul_right 30 (by omega)
              omega)).mono (R' := fun e w' => ∃ q : Pd, e = .returned (.agg #[.slice q.rA q.rm q.rc, .slice q.uA q.um q.uc]) ∧ Hid (Below U.heap.size U w') ∧ Hid (KM sb U w') ∧ Hid (YieldAt Fence.wide 0 Tryz.prog l0 #[.agg #[.slice q.rA q.rm q.rc, .slice q.uA q.um q.uc]] w' fun e W' =>
                (e = .returned (.bool true) ∧ J (((List.range k).flatMap L).length + j + 1) W' ∧ KM sb w' W') ∨ (e = .returned (.bool false) ∧ Jx W' ∧ KeepsFrom W.heap.size w' W'))) fun e w' hp => by
            obtain ⟨q, e1, h1, h2, h3, h4, h5, h6, h7, h8⟩ := hp
            have hb := below_next hd h1
            have hkd := HKU.out.below hd
            have hkm2 := KM.below HKU.out hb
            have hsb := (HKU.out.below hb).sb
            have hpv : PV sb B0 x.os (Bt.made y) (.agg #[.slice q.rA q.rm q.rc, .slice q.uA q.um q.uc]) w' := ⟨q, rfl, hsb, PlOwn.stay hkd h1 HBU.out ⟨h2, h6, h7, h8⟩, by rw [h3, hro], by rw [h4, h3, hro], h5⟩
            exact ⟨q, e1, hb, hkm2, HY.out _ _ _ w' (HAT.out k j y hlt HX.out) (own_below HJ.out HJj.out hb) (HKV.out.trans (HKW.out.trans hkm2)) hpv⟩)
          clear hJj hmk hkm hx hrt hro hd
          gi_wp2
          refine region_tail (by first | exact .inl rfl | exact .inr ⟨_, rfl⟩) 4 (by kernel_rfl) (by kernel_rfl) ?_
          simp only [List.take_succ_cons, List.take_zero, List.drop_succ_cons, List.drop_zero]
          refine head_start (S := (fun U2 : World => U2.cell? ⟨W.heap.size, 0, none⟩ = some (.func (.yield l0) #[] #[]) ∧ U2.cell? ⟨bw, 0, none⟩ = some (.int .i64 x.N) ∧ U2.cell? ⟨bw, 1, none⟩ = some (.slice x.dA x.dm x.dc) ∧ U2.cell? ⟨bw, 2, none⟩ = some (.slice x.tA x.tm x.tc) ∧ U2.cell? ⟨bw, 3, none⟩ = some (.slice x.A x.m x.c) ∧ U2.cell? ⟨bw, 4, none⟩ = some (.slice x.B x.k x.d) ∧ Below U.heap.size U U2)) (by (try dsimp only); (first | exact HSY.out _ HBd.out | exact HSY.out _ hb2.out | assumption)) (fun hHeld => ?_)
          refine wpAnyH_take (i := 0) (v := ?_) (by simp only [List.getElem?_toArray, List.getElem?_cons_zero]; exact rfl) (by kernel_rfl) (by kernel_rfl) (by kernel_rfl) (fun _ _ _ h => h) (Or.inl ⟨by rfl, ?_⟩) (by assumption) ?_
          rotate_left
          · intro w hSw; (try dsimp only at hSw); go_simp <;> with_reducible rfl
          try simp only [Act.put, List.setIfInBounds_toArray, List.set_cons_zero, List.set_cons_succ]
          refine wpAnyH_take (i := 1) (v := ?_) (by simp only [List.getElem?_toArray, List.getElem?_cons_succ, List.getElem?_cons_zero]; exact rfl) (by kernel_rfl) (by kernel_rfl) (by kernel_rfl) (fun _ _ _ h => h) (Or.inl ⟨by rfl, ?_⟩) (by assumption) ?_
          rotate_left
          · intro w hSw; (try dsimp only at hSw); go_simp <;> with_reducible rfl
          try simp only [Act.put, List.setIfInBounds_toArray, List.set_cons_zero, List.set_cons_succ]
          refine wpAnyH_take (i := 2) (v := ?_) (by simp only [List.getElem?_toArray, List.getElem?_cons_succ, List.getElem?_cons_zero]; exact rfl) (by kernel_rfl) (by kernel_rfl) (by kernel_rfl) (fun _ _ _ h => h) (Or.inl ⟨by rfl, ?_⟩) (by assumption) ?_
          rotate_left
          · intro w hSw; (try dsimp only at hSw); go_simp <;> with_reducible rfl
          try simp only [Act.put, List.setIfInBounds_toArray, List.set_cons_zero, List.set_cons_succ]
          refine wpAnyH_ready (rs := [3]) (by kernel_rfl) (by simp) ?_
          refine AllReadyH.cons (by simp only [List.getElem?_toArray, List.getElem?_cons_succ, List.getElem?_cons_zero]; exact rfl) (fun K hK => ?_) AllReadyH.nil
          go_simp
          go_at_call 49
          with_reducible refine HPO.out.mono ?_
          rintro e w2 ⟨q, rfl, hb2, hkm2, hy2⟩
          go_wp2_with fail
          clear hHeld
          refine hK.out _ _ ?_ (fun hHeld => ?_)
          · (try dsimp only); (first | exact HSY.out _ HBd.out | exact HSY.out _ hb2.out | assumption)
          clear hK K
          try simp only [Act.put, List.setIfInBounds_toArray, List.set_cons_zero, List.set_cons_succ]
          refine wpAnyH_done (by kernel_rfl) ?_ _
          all_goals
            simp only [HeadQ]
            obtain ⟨fn, tmps, assign, body, hy, hR⟩ := hy2.out
            have HR3 := Lib.hid hR
            clear hR hy2 y0 y1 y2 y3 y4 y5
            gi_wp2
            refine ⟨rfl, (round_in l HR3.out).mono ?_⟩
            rintro en w4 (⟨rfl, hJ4, hk4⟩ | ⟨rfl, hJx, hkf⟩)
            · have HJ4 := Lib.hid hJ4
              have HK4 := Lib.hid (hkm2.out.trans hk4)
              clear hJ4 hk4 hy
              gi_wp2
              exact ⟨HK4.out, HJ4.out, HMKj.out.km HKU.out HK4.out⟩
            · have HJ4 := Lib.hid hJx
              have HK4 : Hid (KeepsFrom W.heap.size U w4) := ⟨Nat.le_trans hb2.out.size hkf.size, fun i o h1 h2 h3 => hkf.same i o h1 ((hb2.out.block i (lt_some h2)).trans h2) h3⟩
              clear hJx hkf hy
              gi_wp2
              exact ⟨kf_up HK4.out HWS.out, rfl, HJ4.out, HMKj.out.kf HK4.out⟩
        case done =>
          rintro D U hD ⟨hJj, hmk⟩ hkm hdf
          have HJj := Lib.hid hJj
          have HKM := Lib.hid (HK.out.trans hkm)
          have HMK2 : Hid (Mks W.heap.size ({ target := .collected D, args := #[] } :: ds) U) := hmk.cons (Nat.le_trans HWS.out hD) (fun d hd D' e => Nat.lt_of_lt_of_le (HMK.out.lt d hd D' e) hD) hdf
          clear hJj hmk hkm hdf hD
          gi_wp2
          refine RoundEnd.mk (by kernel_rfl) (by simp only [rdL, List.getElem?_cons_succ, List.getElem?_cons_zero, Option.getD_some]; exact rfl) ?rel ?measure
          case rel => exact ⟨k + 1, by omega, by first | rfl | go_num, by rw [HLN.out]; exact HJj.out, HKM.out, HMK2.out⟩
          case measure => simp [intOf]; omega
        case stop =>
          rintro D c U hD ⟨rfl, hJx, hmk⟩ hdf
          have HJX2 := Lib.hid hJx
          have HMK2 : Hid (Mks W.heap.size ({ target := .collected D, args := #[] } :: ds) U) := hmk.cons (Nat.le_trans HWS.out hD) (fun d hd D' e => Nat.lt_of_lt_of_le (HMK.out.lt d hd D' e) hD) hdf
          clear hJx hmk hdf hD
          gi_wp2
          exact leaves_marks HJX.out (fun U2 h => ⟨_, results_none rfl _ _ _, ⟨_, rfl⟩, .inr h⟩) _ _ HMK2.out HJX2.out
      · obtain rfl : k = 5 := by omega
        have d1 : decide (((5 : Nat) : Int) < (5 : Int)) = false := by decide
        gi_wp2
        refine leaves_marks (I := fun U => J (Bt.movesL (ros p.rs) p.us (x.ts.map Ld.T.id)).length U ∧ MnOk sb U ∧ KM sb W U) (fun s A B row h hg hr => ⟨HJ.out _ A B row h.1 hg hr, km_own sb W () A B row h.2 hg hr⟩) (fun U2 h => ⟨_, results_none rfl _ _ _, ⟨_, rfl⟩, .inl ⟨h.1, h.2.2⟩⟩) _ _ HMK.out ?_
        have := HJk.out
        rw [← HEND.out] at this
        exact ⟨this, HM.out _ _ this, HKV.out.trans (HKV2.out.trans HK.out)⟩
end Go.Proofs.YtgjmlnpfkmpfgaaGreat
