/- Package better: the iterator that puts each unserved order at each place, over the one that puts one. -/
import Derived.Test.YtgjmlnpfkmpfgaaGreatBetPb
import Derived.Test.YtgjmlnpfkmpfgaaGreatPlanAB
namespace Go.Proofs.YtgjmlnpfkmpfgaaGreat
open Go.RowKit Go.Shelf
set_option linter.unusedVariables false
set_option maxRecDepth 100000
attribute [local go_sem] Oper.semAt_some

theorem round_in {P : Program} {l0 : Nat} {f : FuncId} {tmps : Array Value} {assign body : Code} {w : World} {R : Ending → World → Prop} (l : Nat) (h : RoundIn Fence.wide 0 P l0 f tmps assign body w R) : RoundIn (Fence.wide.inRound l) 0 P l0 f tmps assign body w R := h
theorem km_own (sb : Nat) (w : World) : OwnFrom w.heap.size (fun (_ : Unit) U => MnOk sb U ∧ KM sb w U) := by
  rintro _ W W' row ⟨hk, hm⟩ hg hr
  have hs : W'.heap[sb]? = W.heap[sb]? := hg.block sb (hk.lt (.inl rfl)) (fun e => by
    obtain ⟨_, o, ho, hc⟩ := hr sb e.symm
    exact hk.not ho hc (.inl rfl))
  have hold : ∀ (i : Nat) (o : Obj), W.heap[i]? = some o → o.isCells = true → W'.heap[i]? = some o := fun i o ho hc => (hg.block i (lt_some ho) (fun e => by
    obtain ⟨_, o2, ho2, hc2⟩ := hr i e.symm
    rw [ho] at ho2
    obtain rfl := Option.some.inj ho2
    rw [hc] at hc2
    cases hc2)).trans ho
  refine ⟨fun i hi => ?_, ⟨hg.os.trans hm.os, hg.tape.trans hm.tape, hg.output.trans hm.output, Nat.le_trans hm.size hg.size, fun i hi h => hm.mn i hi ((Mn.congr hs).1 h), fun i o hn ho => ?_⟩⟩
  · obtain ⟨cs, t, fr, e⟩ := hk i ((Mn.congr hs).1 hi)
    exact ⟨cs, t, fr, hold i _ e rfl⟩
  · have h1 := hm.keep i o hn ho
    exact (hg.block i (lt_some h1) (fun e => by have := (hr i e.symm).1; have := lt_some ho; omega)).trans h1
theorem OwnFrom.up {β : Type} {B B' : Nat} {I : β → World → Prop} (h : OwnFrom B I) (hB : B ≤ B') : OwnFrom B' I := fun s W W' row hs hg hr => h s W W' row hs hg fun r e => ⟨Nat.le_trans hB (hr r e).1, (hr r e).2⟩
theorem kf_up {B B' : Nat} {W W' : World} (h : KeepsFrom B W W') (hB : B ≤ B') : KeepsFrom B' W W' := ⟨h.size, fun k o hk ho hc => h.same k o (Nat.le_trans hB hk) ho hc⟩

/-- a range whose variable lies in a slot -/
theorem range_up {P : Program} {β : Type} {sb : Nat} {g : Operand} {p0 : Tmp} {assign body : Code} {Q : Exit → Act → World → Prop} {a : Act} {w : World} {gf : Nat} {lv : Array Value}
    (hg : a.eval g = .func (.func gf) #[] lv) (eg : ∀ args w, (callFunc gf args).run P w = .ok (.enter gf args) w)
    {V : β → Value → World → Prop} (hV : ∀ x v, Own (fun (_ : Unit) W => V x v W)) {xs : List β} {w0 : World} (hG : Gives sb P gf lv V xs w0) (hw : KM sb w0 w)
    (I : Nat → World → Prop) (Ix : Code → World → Prop) (hI : OwnFrom w.heap.size I) (hIx : ∀ c, OwnFrom w.heap.size (fun (_ : Unit) => Ix c)) (hM : ∀ k W, I k W → MnOk sb W) (h0 : I 0 w)
    (upd : Value → Array Value → Array Value)
    (hassign : ∀ (l : Nat) (v : Value) (W : World) (K : Act → World → Prop), K { tmps := upd v a.tmps, defers := [] } W →
      assign.wpIn (Fence.wide.inRound l) 0 P (Exit.then K (fun _ _ _ => False)) { tmps := a.tmps.setIfInBounds p0 v, defers := [] } W)
    (hbody : ∀ (l k : Nat) (x : β) (v : Value) (W : World), xs[k]? = some x → I k W → KM sb w W → V x v W → body.wpIn (Fence.wide.inRound l) 0 P (BPost w.heap.size sb I Ix (k + 1) W) { tmps := upd v a.tmps, defers := [] } W)
    (hdone : ∀ (D : Nat) (W : World), w.heap.size ≤ D → I xs.length W → KM sb w W → W.heap[D]? = some (.deferred (some [])) → Q .normal { a with defers := { target := .collected D, args := #[] } :: a.defers } W)
    (hstop : ∀ (D : Nat) (c : Code) (W : World), w.heap.size ≤ D → Ix c W → W.heap[D]? = some (.deferred (some [])) → c.wpIn Fence.wide 0 P Q { a with defers := { target := .collected D, args := #[] } :: a.defers } W) :
    (Code.rangeFunc g #[p0] assign body).wpIn Fence.wide 0 P Q a w :=
  range_it hg eg hV hG hw I Ix hI hIx hM h0 (fun v a' _ => a' = { tmps := upd v a.tmps, defers := [] }) (fun v a' _ _ _ _ h _ _ => h)
    (fun l k x v W K hx hi hv hK => hassign l v W K (hK _ W (Below.refl _ _) rfl hv))
    (fun l k x v a' W hx hi hk hv ha => by subst ha; exact hbody l k x v W hx hi hk hv) hdone hstop

/-- a plan that is changed by moves -/
structure PlS (W : World) (p : Pd) : Prop where
  rts : RtsAt 14 W p.rA p.rm p.rs
  m7 : p.rm ≤ 7
  ul : p.us.length = p.um
  u2 : p.um ≤ 100
  us : IntsAt W p.uA p.us
  cap : ∀ r ∈ p.rs, r.sm ≤ r.sc

set_option maxHeartbeats 1000000 in
theorem puts_b (A : Option Addr) (m c : Nat) (id : Int) (w : World) :
    Calls Tryz.prog 68 #[.slice A m c, .int .i64 id] w fun e w' => e = .returned (.func (.func 113) #[] #[.pointer (some ⟨w.heap.size, 0, none⟩), .pointer (some ⟨w.heap.size + 1, 0, none⟩)]) ∧
      w' = (w.alloc (.cells #[.slice A m c] 29)).alloc (.cells #[.int .i64 id] 3) := by
  go_enter Tryz.func68, Tryz.ntmps68
  go_wp2
  go_ret
  exact ⟨rfl, rfl⟩
/-- the iterator that it makes -/
theorem puts_gives (sb : Nat) (A : Option Addr) (m c : Nat) (l : List Rd) (id : Int) (w : World) (hk : MnOk sb w) (hs : Stay sb w fun U => RtsAt 14 U A m l) :
    Gives sb Tryz.prog 113 #[.pointer (some ⟨w.heap.size, 0, none⟩), .pointer (some ⟨w.heap.size + 1, 0, none⟩)] RV (Bt.ins2 (ros l) id m) ((w.alloc (.cells #[.slice A m c] 29)).alloc (.cells #[.int .i64 id] 3)) := by
  have hk1 := hk.below (below_alloc w (.cells #[.slice A m c] 29))
  have e1 := stay_new hk #[.slice A m c] 29
  have e2 := stay_new hk1 #[.int .i64 id] 3
  rw [← size_one w (.cells #[.slice A m c] 29)] at e2
  exact puts1_b sb _ _ A m c l id _ ((e1.step (KM.below hk1 (below_alloc _ _))).and (e2.and (hs.step ((KM.below hk (below_alloc _ _)).trans (KM.below hk1 (below_alloc _ _))))))

theorem take_at {α : Type} (f : Int → List α) {l : List Int} {k j : Nat} {u : Int} (hu : l[k]? = some u) (hj : j < (f u).length) : (l.flatMap f)[((l.take k).flatMap f).length + j]? = (f u)[j]? := by
  have hk := (List.getElem?_eq_some_iff.1 hu).1
  have e : l.flatMap f = ((l.take (k + 1)).flatMap f) ++ ((l.drop (k + 1)).flatMap f) := by rw [← List.flatMap_append, List.take_append_drop]
  rw [e, Bt.flat_take f hu, List.getElem?_append_left (by simp; omega), List.getElem?_append_right (by omega)]
  congr 1
  omega

set_option maxHeartbeats 8000000 in
theorem ins1_b (sb b : Nat) (p : Pd) (w : World) (hs : Stay sb w fun U => Box U b p.cells 32 ∧ PlS U p) :
    Gives sb Tryz.prog 67 #[.pointer (some ⟨b, 0, none⟩)] RV (Bt.ins3 (ros p.rs) p.us) w := by
  intro l0 J Jx W hW hJ hJx hM hY h0
  have HS := Lib.hid (hs.step hW)
  have HY := Lib.hid hY
  have HM := Lib.hid hM
  have HJ := Lib.hid hJ
  have HJX := Lib.hid hJx
  have hu2 := HS.out.now.2.u2
  have HV : Hid (Stay sb (W.alloc (.cells #[.func (.yield l0) #[] #[]] 106)) fun U => Box U W.heap.size #[.func (.yield l0) #[] #[]] 106) := stay_new (hM 0 W h0) _ _
  have HKV : Hid (KM sb W (W.alloc (.cells #[.func (.yield l0) #[] #[]] 106))) := KM.below (hM 0 W h0) (below_alloc _ _)
  have H0 : Hid (J 0 (W.alloc (.cells #[.func (.yield l0) #[] #[]] 106))) := own_below hJ h0 (below_alloc _ _)
  have x1 : (W.alloc (.cells #[.func (.yield l0) #[] #[]] 106)).cell? ⟨b, 1, none⟩ = some (.slice p.uA p.um p.uc) := (HS.out.step HKV.out).now.1.cell 1 _ rfl
  clear hs hW hJ hJx hM hY h0
  refine callsIn_of_wp_marks Tryz.func67 rfl trivial ?_ rfl
  simp only [Tryz.ntmps67, List.size_toArray, List.length_cons, List.length_nil, Nat.reduceAdd, Nat.reduceSub, Array.replicate_succ, Array.replicate_zero, List.push_toArray, List.append_toArray, List.nil_append, List.cons_append]
  gi_wp2
  clear x1
  generalize hV0 : W.alloc (.cells #[.func (.yield l0) #[] #[]] 106) = V0 at *
  clear hV0
  refine wpIn_loop_fr 9 [4, 5, 10, 11, 12, 13, 14, 15, 16, 18, 19, 20, 21, 22] (fun s9 ds U => ∃ (k : Nat), k ≤ p.um ∧ s9 = .int .i64 (k : Int) ∧ Hid (J (Bt.ins3 (ros p.rs) (p.us.take k)).length U) ∧ Hid (KM sb V0 U) ∧ Hid (Mks W.heap.size ds U)) (fun s9 => p.um - (intOf s9).toNat) rfl (by kernel_rfl) ?atStart ?round
  case atStart => exact ⟨0, by omega, rfl, H0.out, KM.refl _ _, Mks.nil _ _⟩
  case round =>
    intro s9 u4 u5 u10 u11 u12 u13 u14 u15 u16 u18 u19 u20 u21 u22 ds wr hrel
    conv => arg 6; simp only [fillL, List.set_cons_succ, List.set_cons_zero]
    obtain ⟨k, hk, rfl, HJk, HK, HMK⟩ := hrel
    clear H0
    by_cases hlt : k < p.um
    · obtain ⟨u, hu⟩ := mlist_at p.us k (by rw [HS.out.now.2.ul]; exact hlt)
      have hf := (HS.out.step (HKV.out.trans HK.out)).now
      obtain ⟨ua, hua, hcu⟩ := hf.2.us k u hu
      have y0 : wr.cell? ⟨b, 0, none⟩ = some (.slice p.rA p.rm p.rc) := hf.1.cell 0 _ rfl
      have i2 : (k : Int) < (p.um : Int) := by omega
      have HU := Lib.hid hu
      have HUA := Lib.hid hua
      clear hf hua hu
      generalize p.uA = uA at *
      obtain rfl := HUA.out
      have HLM : Hid ((ros p.rs).length = p.rm) := by rw [ros_len]; exact HS.out.now.2.rts.len
      have HAT : Hid (∀ j x, (Bt.ins2 (ros p.rs) u p.rm)[j]? = some x → (Bt.ins3 (ros p.rs) p.us)[(Bt.ins3 (ros p.rs) (p.us.take k)).length + j]? = some x) := fun j x hx => by
        have := take_at (fun u => Bt.ins2 (ros p.rs) u (ros p.rs).length) HU.out (j := j) (by rw [HLM.out]; exact (List.getElem?_eq_some_iff.1 hx).1)
        rw [HLM.out, hx] at this
        unfold Bt.ins3
        rw [HLM.out]
        exact this
      have HLN : Hid ((Bt.ins3 (ros p.rs) (p.us.take (k + 1))).length = (Bt.ins3 (ros p.rs) (p.us.take k)).length + (Bt.ins2 (ros p.rs) u p.rm).length) := by
        unfold Hid Bt.ins3
        rw [Bt.flat_take _ HU.out, List.length_append, HLM.out]
      have HKA : Hid (MnOk sb wr) := HM.out _ _ HJk.out
      have HG := Lib.hid (puts_gives sb p.rA p.rm p.rc p.rs u wr HKA.out ((HS.out.step (HKV.out.trans HK.out)).imp fun U h => h.2.rts))
      have HBL : Hid (Below wr.heap.size wr ((wr.alloc (.cells #[.slice p.rA p.rm p.rc] 29)).alloc (.cells #[.int .i64 u] 3))) := below_more (below_alloc _ _) _
      gi_wp2
      refine ⟨trivial, rfl, (callsIn_wide.2 (puts_b p.rA p.rm p.rc u wr)).mono ?_⟩
      rintro en w1 ⟨rfl, rfl⟩
      clear y0 hcu
      gi_wp2
      have HJ5 : Hid (J (Bt.ins3 (ros p.rs) (p.us.take k)).length ((wr.alloc (.cells #[.slice p.rA p.rm p.rc] 29)).alloc (.cells #[.int .i64 u] 3))) := own_below HJ.out HJk.out HBL.out
      have HK5 : Hid (KM sb V0 ((wr.alloc (.cells #[.slice p.rA p.rm p.rc] 29)).alloc (.cells #[.int .i64 u] 3))) := HK.out.trans (KM.below HKA.out HBL.out)
      have HM5 : Hid (Mks W.heap.size ds ((wr.alloc (.cells #[.slice p.rA p.rm p.rc] 29)).alloc (.cells #[.int .i64 u] 3))) := HMK.out.below HBL.out
      generalize (wr.alloc (.cells #[.slice p.rA p.rm p.rc] 29)).alloc (.cells #[.int .i64 u] 3) = w5 at *
      have HWS : Hid (W.heap.size ≤ w5.heap.size) := (HKV.out.trans HK5.out).size
      clear HJk HMK HBL HK HKA
      refine range_up (sb := sb) (gf := 113) (lv := #[.pointer (some ⟨wr.heap.size, 0, none⟩), .pointer (some ⟨wr.heap.size + 1, 0, none⟩)]) rfl (enters_of Tryz.func113 (by kernel_rfl) rfl) rv_own HG.out (KM.refl sb w5)
        (fun j U => J ((Bt.ins3 (ros p.rs) (p.us.take k)).length + j) U ∧ Mks W.heap.size ds U) (fun c U => c = .ret ∧ Jx U ∧ Mks W.heap.size ds U)
        (fun j A B row h hg hr => ⟨(OwnFrom.up HJ.out HWS.out) _ A B row h.1 hg hr, (Mks.own W.heap.size w5.heap.size ds HM5.out.lt) () A B row h.2 hg hr⟩)
        (fun c _ A B row h hg hr => ⟨h.1, (OwnFrom.up HJX.out HWS.out) () A B row h.2.1 hg hr, (Mks.own W.heap.size w5.heap.size ds HM5.out.lt) () A B row h.2.2 hg hr⟩)
        (fun j U h => HM.out _ _ h.1) ⟨HJ5.out, HM5.out⟩ (fun v T => (T.setIfInBounds 17 v).setIfInBounds 5 v) ?assign ?body ?done ?stop
      case assign =>
        intro l v U K hK
        gi_wp2
        simpa using hK
      case body =>
        rintro l j x v U hx ⟨hJj, hmk⟩ hkm hv
        have HJj := Lib.hid hJj
        have HMK := Lib.hid hmk
        have HKM := Lib.hid hkm
        have x0 := ints_row ((HV.out.step (HK5.out.trans hkm)).now)
        obtain ⟨fn, tmps, assign, body, hy, hR⟩ := HY.out _ x v U (HAT.out j x hx) hJj (HKV.out.trans (HK5.out.trans hkm)) hv
        have HR3 := Lib.hid hR
        clear hJj hmk hkm hR hv hx
        gi_wp2
        refine ⟨rfl, (round_in l HR3.out).mono ?_⟩
        rintro en w4 (⟨rfl, hJ4, hk4⟩ | ⟨rfl, hJx, hkf⟩)
        · have HJ4 := Lib.hid hJ4
          have HK4 := Lib.hid hk4
          clear hJ4 hk4 hy
          gi_wp2
          exact ⟨HK4.out, HJ4.out, HMK.out.km (HM.out _ _ HJj.out) HK4.out⟩
        · have HJ4 := Lib.hid hJx
          have HK4 := Lib.hid hkf
          clear hJx hkf hy
          gi_wp2
          exact ⟨kf_up HK4.out HWS.out, rfl, HJ4.out, HMK.out.kf HK4.out⟩
      case done =>
        rintro D U hD ⟨hJj, hmk⟩ hkm hdf
        have HJj := Lib.hid hJj
        have HKM := Lib.hid (HK5.out.trans hkm)
        have HMK : Hid (Mks W.heap.size ({ target := .collected D, args := #[] } :: ds) U) := hmk.cons (Nat.le_trans HWS.out hD) (fun d hd D' e => Nat.lt_of_lt_of_le (HM5.out.lt d hd D' e) hD) hdf
        clear hJj hmk hkm hdf hD
        gi_wp2
        refine RoundEnd.mk (by kernel_rfl) (by simp only [rdL, List.getElem?_cons_succ, List.getElem?_cons_zero, Option.getD_some]; exact rfl) ?rel ?measure
        case rel => exact ⟨k + 1, by omega, by first | rfl | go_num, by rw [HLN.out]; exact HJj.out, HKM.out, HMK.out⟩
        case measure => simp [intOf]; omega
      case stop =>
        rintro D c U hD ⟨rfl, hJx, hmk⟩ hdf
        have HJX2 := Lib.hid hJx
        have HMK : Hid (Mks W.heap.size ({ target := .collected D, args := #[] } :: ds) U) := hmk.cons (Nat.le_trans HWS.out hD) (fun d hd D' e => Nat.lt_of_lt_of_le (HM5.out.lt d hd D' e) hD) hdf
        clear hJx hmk hdf hD
        gi_wp2
        exact leaves_marks HJX.out (fun U2 h => ⟨_, results_none rfl _ _ _, ⟨_, rfl⟩, .inr h⟩) _ _ HMK.out HJX2.out
    · obtain rfl : k = p.um := by omega
      have HTK : Hid (p.us.take p.um = p.us) := List.take_of_length_le (by rw [HS.out.now.2.ul]; exact Nat.le_refl _)
      gi_wp2
      refine leaves_marks (I := fun U => J (Bt.ins3 (ros p.rs) p.us).length U ∧ MnOk sb U ∧ KM sb W U) (fun s A B row h hg hr => ⟨HJ.out _ A B row h.1 hg hr, km_own sb W () A B row h.2 hg hr⟩) (fun U2 h => ⟨_, results_none rfl _ _ _, ⟨_, rfl⟩, .inl ⟨h.1, h.2.2⟩⟩) _ _ HMK.out ?_
      have := HJk.out
      rw [HTK.out] at this
      exact ⟨this, HM.out _ _ this, HKV.out.trans HK.out⟩
end Go.Proofs.YtgjmlnpfkmpfgaaGreat
