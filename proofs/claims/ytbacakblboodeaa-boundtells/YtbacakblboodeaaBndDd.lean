/- The document's Holds. -/
import Derived.Test.YtbacakblboodeaaBndDb
import Derived.Test.YtbacakblboodeaaRouteRW
namespace Go.Proofs.Ytbacakblboodeaa
open Go.RowKit
set_option linter.unusedVariables false
set_option maxRecDepth 100000

theorem qrc0 {w : World} {b : Nat} {q : Ct} (h : Box w b q.cells 37) : w.cell? ⟨b, 0, none⟩ = some (.slice q.iA q.im q.ic) := h.cell 0 _ rfl
theorem qrc1 {w : World} {b : Nat} {q : Ct} (h : Box w b q.cells 37) : w.cell? ⟨b, 1, none⟩ = some (.slice q.nA q.nm q.nc) := h.cell 1 _ rfl
theorem qrc2 {w : World} {b : Nat} {q : Ct} (h : Box w b q.cells 37) : w.cell? ⟨b, 2, none⟩ = some (.int .i64 q.back) := h.cell 2 _ rfl
theorem qrc3 {w : World} {b : Nat} {q : Ct} (h : Box w b q.cells 37) : w.cell? ⟨b, 3, none⟩ = some (.int .i64 q.rate) := h.cell 3 _ rfl
theorem qrc4 {w : World} {b : Nat} {q : Ct} (h : Box w b q.cells 37) : w.cell? ⟨b, 4, none⟩ = some (.int .i64 q.fixed) := h.cell 4 _ rfl
theorem qrc5 {w : World} {b : Nat} {q : Ct} (h : Box w b q.cells 37) : w.cell? ⟨b, 5, none⟩ = some (.int .i64 q.bound) := h.cell 5 _ rfl

structure HBX (V : World) (b1 b2 : Nat) (x : Wd) (q : Ct) : Prop where
  w : WX V b1 x
  c : Box V b2 q.cells 37
  at_ : CtAt V q

set_option maxHeartbeats 20000000 in
theorem dholds_b (x : Wd) (q : Ct) (w : World) (r : Bool) (hr : Bo.holdsB x.N x.D x.T x.os x.ts q.c = r) (hx : WAt w x) (hq : CtAt w q) :
    Calls Try.prog 13 #[.agg #[.int .i64 x.N, .slice x.dA x.dm x.dc, .slice x.tA x.tm x.tc, .slice x.A x.m x.c, .slice x.B x.k x.d], .agg #[.slice q.iA q.im q.ic, .slice q.nA q.nm q.nc, .int .i64 q.back, .int .i64 q.rate, .int .i64 q.fixed, .int .i64 q.bound]] w fun e w' => e = .returned (.bool r) ∧ Hid (Below w.heap.size w w') := by
  have HX : Hid (HBX ((w.alloc (.cells #[.int .i64 x.N, .slice x.dA x.dm x.dc, .slice x.tA x.tm x.tc, .slice x.A x.m x.c, .slice x.B x.k x.d] 28)).alloc (.cells #[.slice q.iA q.im q.ic, .slice q.nA q.nm q.nc, .int .i64 q.back, .int .i64 q.rate, .int .i64 q.fixed, .int .i64 q.bound] 37)) w.heap.size (w.heap.size + 1) x q) := ⟨(WX.new hx).below (below_alloc _ _), box_at _ _ _ _ (by simp), (hq.below (below_alloc _ _)).below (below_alloc _ _)⟩
  have HB0 : Hid (Below w.heap.size w ((w.alloc (.cells #[.int .i64 x.N, .slice x.dA x.dm x.dc, .slice x.tA x.tm x.tc, .slice x.A x.m x.c, .slice x.B x.k x.d] 28)).alloc (.cells #[.slice q.iA q.im q.ic, .slice q.nA q.nm q.nc, .int .i64 q.back, .int .i64 q.rate, .int .i64 q.fixed, .int .i64 q.bound] 37))) := below_more (below_alloc _ _) _
  have HNO : Hid (¬ Bo.RH x.N x.D x.T x.os x.ts q.c → r = false) := fun h => by rw [← hr]; exact Bool.eq_false_iff.2 fun e => h ((Bo.rh_iff _).1 e)
  have HYES : Hid (Bo.RH x.N x.D x.T x.os x.ts q.c → r = true) := fun h => by rw [← hr]; exact (Bo.rh_iff _).2 h
  clear hx hr hq
  obtain ⟨ew, hew⟩ : ∃ e, Rt.worldE x.N x.D x.T x.os x.ts = e := ⟨_, rfl⟩
  have HEW := Lib.hid hew
  have HC := Lib.hid (dworld_b x ((w.alloc (.cells #[.int .i64 x.N, .slice x.dA x.dm x.dc, .slice x.tA x.tm x.tc, .slice x.A x.m x.c, .slice x.B x.k x.d] 28)).alloc (.cells #[.slice q.iA q.im q.ic, .slice q.nA q.nm q.nc, .int .i64 q.back, .int .i64 q.rate, .int .i64 q.fixed, .int .i64 q.bound] 37)) ew hew HX.out.w.at_)
  clear hew
  go_enter Try.func13, Try.ntmps13
  have x0 := HX.out.w.c0
  have x1 := HX.out.w.c1
  have x2 := HX.out.w.c2
  have x3 := HX.out.w.c3
  have x4 := HX.out.w.c4
  go_wp2_with fail
  clear x0 x1 x2 x3 x4
  generalize ((w.alloc (.cells #[.int .i64 x.N, .slice x.dA x.dm x.dc, .slice x.tA x.tm x.tc, .slice x.A x.m x.c, .slice x.B x.k x.d] 28)).alloc (.cells #[.slice q.iA q.im q.ic, .slice q.nA q.nm q.nc, .int .i64 q.back, .int .i64 q.rate, .int .i64 q.fixed, .int .i64 q.bound] 37)) = V at *
  generalize w.heap.size + 1 = b2 at *
  generalize w.heap.size = b1 at HX ⊢
  with_reducible refine HC.out.mono ?_
  rintro e V1 ⟨rfl, hV1⟩
  have HD1 := Lib.hid hV1.out
  clear HC hV1
  by_cases h0 : ew = 0
  rotate_left
  · have d1 : (ew != 0) = true := bne_iff_ne.2 h0
    have HF : Hid (r = false) := HNO.out fun h => h0 (HEW.out.symm.trans h.w)
    clear h0
    go_wp2
    go_ret
    exact ⟨by rw [HF.out]; rfl, below_next HB0.out HD1.out⟩
  subst h0
  obtain ⟨bi, hbi⟩ : ∃ bi : Bool, bi = true ↔ Rt.allIn x.os q.ids = true ∧ Bo.Rises q.ids := by
    by_cases h : Rt.allIn x.os q.ids = true ∧ Bo.Rises q.ids
    · exact ⟨true, by simp [h]⟩
    · exact ⟨false, by simp [h]⟩
  have HBI := Lib.hid hbi
  have HC := Lib.hid (dids_b x q.iA q.im q.ic q.ids V1 bi hbi (HX.out.w.below HD1.out).at_ HX.out.at_.il HX.out.at_.i2 (HX.out.at_.below HD1.out).ii)
  clear hbi
  have x0 := (HX.out.w.below HD1.out).c0
  have x1 := (HX.out.w.below HD1.out).c1
  have x2 := (HX.out.w.below HD1.out).c2
  have x3 := (HX.out.w.below HD1.out).c3
  have x4 := (HX.out.w.below HD1.out).c4
  have y0 := qrc0 (HX.out.c.below HD1.out)
  go_wp2_with fail
  clear x0 x1 x2 x3 x4 y0
  with_reducible refine HC.out.mono ?_
  rintro e V2 ⟨rfl, hV2⟩
  have HD2 := Lib.hid (below_next HD1.out hV2.out)
  clear HC hV2 HD1
  cases bi
  · have HF : Hid (r = false) := HNO.out fun h => (by have := HBI.out.2 ⟨h.ai, h.ri⟩; cases this)
    go_wp2
    go_ret
    exact ⟨by rw [HF.out]; rfl, below_next HB0.out HD2.out⟩
  have HAI : Hid (Rt.allIn x.os q.ids = true ∧ Bo.Rises q.ids) := HBI.out.1 rfl
  clear HBI
  have y0 := qrc0 (HX.out.c.below HD2.out)
  have y1 := qrc1 (HX.out.c.below HD2.out)
  have HIL := Lib.hid HX.out.at_.il
  have HNL := Lib.hid HX.out.at_.nl
  have hi2 := HX.out.at_.i2
  by_cases hlen : q.nm = q.im
  rotate_left
  · have d2 : ((q.nm : Int) != (q.im : Int)) = true := bne_iff_ne.2 (by omega)
    have HLE : Hid (¬ q.nm = q.im) := hlen
    clear hlen
    have HF : Hid (r = false) := HNO.out fun h => HLE.out (by have h1 : q.inn.length = q.ids.length := h.ln; rw [HNL.out, HIL.out] at h1; exact h1)
    go_wp2
    go_ret
    exact ⟨by rw [HF.out]; rfl, below_next HB0.out HD2.out⟩
  have d2 : ((q.nm : Int) != (q.im : Int)) = false := by rw [hlen]; simp
  have HLE := Lib.hid hlen
  clear hlen
  have HLN : Hid (q.inn.length = q.ids.length) := by unfold Hid; rw [HNL.out, HIL.out, HLE.out]
  by_cases hn0 : q.im = 0
  · have d3 : ((q.im : Int) == 0) = true := by rw [hn0]; rfl
    have HI0 : Hid (q.c.ids = []) := List.length_eq_zero_iff.1 (by rw [← hn0]; exact HIL.out)
    clear hn0
    have y2 := qrc2 (HX.out.c.below HD2.out)
    have y3 := qrc3 (HX.out.c.below HD2.out)
    have y4 := qrc4 (HX.out.c.below HD2.out)
    have y5 := qrc5 (HX.out.c.below HD2.out)
    by_cases e_back : q.back = 0
    rotate_left
    · have e2 : (q.back == 0) = false := beq_eq_false_iff_ne.2 e_back
      have HE2 : Hid (¬ q.back = 0) := e_back
      clear e_back
      have HF : Hid (r = false) := HNO.out fun h => HE2.out (by have h1 := h.e HI0.out; exact h1.1)
      go_wp2
      go_ret
      exact ⟨by rw [HF.out]; rfl, below_next HB0.out HD2.out⟩
    have d_back : (q.back == 0) = true := beq_iff_eq.2 e_back
    have E_back := Lib.hid e_back
    clear e_back
    by_cases e_rate : q.rate = 0
    rotate_left
    · have e2 : (q.rate == 0) = false := beq_eq_false_iff_ne.2 e_rate
      have HE2 : Hid (¬ q.rate = 0) := e_rate
      clear e_rate
      have HF : Hid (r = false) := HNO.out fun h => HE2.out (by have h1 := h.e HI0.out; exact h1.2.1)
      go_wp2
      go_ret
      exact ⟨by rw [HF.out]; rfl, below_next HB0.out HD2.out⟩
    have d_rate : (q.rate == 0) = true := beq_iff_eq.2 e_rate
    have E_rate := Lib.hid e_rate
    clear e_rate
    by_cases e_fixed : q.fixed = 0
    rotate_left
    · have e2 : (q.fixed == 0) = false := beq_eq_false_iff_ne.2 e_fixed
      have HE2 : Hid (¬ q.fixed = 0) := e_fixed
      clear e_fixed
      have HF : Hid (r = false) := HNO.out fun h => HE2.out (by have h1 := h.e HI0.out; exact h1.2.2.1)
      go_wp2
      go_ret
      exact ⟨by rw [HF.out]; rfl, below_next HB0.out HD2.out⟩
    have d_fixed : (q.fixed == 0) = true := beq_iff_eq.2 e_fixed
    have E_fixed := Lib.hid e_fixed
    clear e_fixed
    by_cases e_bound : q.bound = 0
    rotate_left
    · have e2 : (q.bound == 0) = false := beq_eq_false_iff_ne.2 e_bound
      have HE2 : Hid (¬ q.bound = 0) := e_bound
      clear e_bound
      have HF : Hid (r = false) := HNO.out fun h => HE2.out (by have h1 := h.e HI0.out; exact h1.2.2.2)
      go_wp2
      go_ret
      exact ⟨by rw [HF.out]; rfl, below_next HB0.out HD2.out⟩
    have d_bound : (q.bound == 0) = true := beq_iff_eq.2 e_bound
    have E_bound := Lib.hid e_bound
    clear e_bound
    have HF : Hid (r = true) := HYES.out ⟨HEW.out, HAI.out.1, HAI.out.2, HLN.out, fun _ => ⟨E_back.out, E_rate.out, E_fixed.out, E_bound.out⟩, fun i o z ho _ => (by rw [HI0.out] at ho; simp [Rt.ordersOf] at ho), fun h => absurd HI0.out h, fun h => absurd HI0.out h, fun h => absurd HI0.out h, fun h => absurd HI0.out h⟩
    go_wp2
    go_ret
    exact ⟨by rw [HF.out]; rfl, below_next HB0.out HD2.out⟩
  have d3 : ((q.im : Int) == 0) = false := beq_eq_false_iff_ne.2 (by omega)
  have HI0 : Hid (q.c.ids ≠ []) := fun e => hn0 (by rw [← HIL.out]; exact congrArg List.length e)
  clear hn0
  have hrok := Rt.ok_of HEW.out
  obtain ⟨L, hL⟩ : ∃ L, Rt.ordersOf x.os q.ids = L := ⟨_, rfl⟩
  have HL : Hid (Rt.ordersOf x.os q.c.ids = L) := hL
  have HLN2 : Hid (L.length = q.im) := by unfold Hid; rw [← hL, Rt.ordersOf_len]; exact HIL.out
  have HLY : Hid (∀ (j : Nat) (y : Int), q.ids[j]? = some y → ∃ p, L[j]? = some p ∧ Rt.ordAt x.os y = p ∧ ¬ Ld.findI (x.os.map Ld.O.id) y = -1) := fun j y hy => by
    refine ⟨_, ?_, rfl, Rt.allIn_at HAI.out.1 hy⟩
    rw [← hL]
    exact Bo.ords_at hy
  have HNO2 : Hid (∀ o ∈ L, Ar.hasB x.N o.node = true) := fun o ho => Rt.OOk.has (hrok.oo o (Bo.ords_mem HAI.out.1 (by rw [hL]; exact ho)).1)
  have h12 : q.im ≤ 12 := by
    have h1 := Bo.nodup_len (os := x.os) (ids := q.ids) (Bo.rises_dup HAI.out.2) (by rw [Bo.allIn_srt]; exact HAI.out.1)
    rw [HIL.out] at h1
    exact Nat.le_trans h1 hrok.ol
  have HAR := Lib.hid (Rt.ok_area HEW.out)
  have H00 := Lib.hid hrok.ar.has0
  have HATD : Hid (∀ f t, Ar.hasB x.N f = true → Ar.hasB x.N t = true → 0 ≤ Ar.at2 x.N x.D f t ∧ Ar.at2 x.N x.D f t ≤ 1000000) := fun f t hf ht => hrok.ar.at_d hf ht
  have HTT : Hid (∀ t ∈ x.ts, t.rate ≤ 1000 ∧ t.fixed ≤ 1000000) := fun t ht => by
    have h := hrok.tt t ht
    exact ⟨h.ra1, h.fx1⟩
  have HLG : Hid (∀ (U : World) (f t d dt : Int), WAt U x → Ar.hasB x.N f = true → Ar.hasB x.N t = true → Ar.at2 x.N x.D f t = d ∧ Ar.at2 x.N x.T f t = dt → Calls Try.prog 33 #[.agg #[.int .i64 x.N, .slice x.dA x.dm x.dc, .slice x.tA x.tm x.tc], .int .i64 f, .int .i64 t] U fun e w' => e = .returned (.tuple #[.int .i64 d, .int .i64 dt, .int .i64 0]) ∧ Hid (Below U.heap.size U w')) := fun U f t d dt hU hf ht hd => by
    have h := rleg_any x.N x.dA x.dm x.dc x.D x.tA x.tm x.tc x.T f t U hU.ar
    rw [leg_is HAR.out hf ht, hd.1, hd.2] at h
    exact h.mono fun e w' ⟨e1, h2⟩ => ⟨e1, h2⟩
  have HC0 : Hid (∀ U, Below V.heap.size V U → U.cell? ⟨b2, 0, none⟩ = some (.slice q.iA q.im q.ic)) := fun U hU => qrc0 (HX.out.c.below hU)
  clear hrok hL
  have y2 := qrc2 (HX.out.c.below HD2.out)
  go_wp2_with fail
  clear y0 y1 y2 d2 d3
  go_loopg [5, 6] q.im (fun gk s5 s6 W => ∃ (k : Nat) (W0 : World) (al : Int), W0 = W ∧ k + gk = q.im ∧ s5 = .int .i64 al ∧ s6 = .int .i64 (k : Int) ∧ Hid (al = q.back + (q.inn.take k).sum) ∧ Hid (∀ (i : Nat) (o : Ld.O) (z : Int), i < k → L[i]? = some o → q.inn[i]? = some z → (0 ≤ z ∧ z ≤ Ar.at2 x.N x.D 0 o.node ∧ ∀ (j : Nat) (p : Ld.O), j ≠ i → L[j]? = some p → z ≤ Ar.at2 x.N x.D p.node o.node) ∧ 0 ≤ q.back ∧ q.back ≤ Ar.at2 x.N x.D o.node 0) ∧ Hid (Below V.heap.size V W0))
  case atStart => exact ⟨0, _, _, rfl, by omega, rfl, rfl, (by unfold Hid; rw [List.take_zero]; simp), (fun i o z h => absurd h (Nat.not_lt_zero i)), HD2.out⟩
  case round =>
    clear HD2
    obtain ⟨k, W0, al, rfl, hkg, rfl, rfl, HAL, HPK, HD⟩ := hrel
    by_cases hlt : k < q.im
    · obtain ⟨go, rfl⟩ : ∃ i, gk = i + 1 := ⟨gk - 1, by omega⟩
      obtain ⟨y, hy⟩ := mlist_at q.ids k (by rw [HIL.out]; exact hlt)
      have HY := Lib.hid hy
      obtain ⟨o, ho, hoy, hof⟩ := HLY.out k y hy
      have HO := Lib.hid ho
      obtain ⟨nn, hnn⟩ : ∃ z, o.node = z := ⟨_, rfl⟩
      have HNN2 := Lib.hid hnn
      have HN1 : Hid (¬ Ld.findI (x.os.map Ld.O.id) y = -1 ∧ (Rt.ordAt x.os y).node = nn) := ⟨hof, by rw [hoy]; exact hnn⟩
      have HTO : Hid (Ar.hasB x.N nn = true) := by unfold Hid; rw [← hnn]; exact HNO2.out o (List.mem_of_getElem? ho)
      obtain ⟨ad, hA, _⟩ := HX.out.at_.ii.at_i hy
      have HAD := Lib.hid hA
      obtain ⟨z, hz⟩ := mlist_at q.inn k (by rw [HNL.out, HLE.out]; exact hlt)
      have HZ := Lib.hid hz
      obtain ⟨adN, hAN, _⟩ := HX.out.at_.nn.at_i hz
      have HAN := Lib.hid hAN
      have i1 : (0 : Int) ≤ (k : Int) := by omega
      have i2 : (k : Int) < (q.im : Int) := by omega
      have i3 : (k : Int) < (q.nm : Int) := by rw [HLE.out]; exact i2
      clear hy ho hoy hof hnn hA hz hAN
      have HIN : Hid (∀ U, Below V.heap.size V U → U.cell? ⟨b1, 0, none⟩ = some (.int .i64 x.N) ∧ U.cell? ⟨b1, 1, none⟩ = some (.slice x.dA x.dm x.dc) ∧ U.cell? ⟨b1, 2, none⟩ = some (.slice x.tA x.tm x.tc) ∧ U.cell? ⟨b1, 3, none⟩ = some (.slice x.A x.m x.c) ∧ U.cell? ⟨b1, 4, none⟩ = some (.slice x.B x.k x.d) ∧ U.cell? ⟨b2, 0, none⟩ = some (.slice (some ad) q.im q.ic) ∧ U.cell? (ad.add k) = some (.int .i64 y)) := fun U hU => by
        have hw := HX.out.w.below hU
        obtain ⟨ad', hA', hc⟩ := (HX.out.at_.below hU).ii.at_i HY.out
        obtain rfl := Option.some.inj (HAD.out.symm.trans hA')
        exact ⟨hw.c0, hw.c1, hw.c2, hw.c3, hw.c4, by rw [← HAD.out]; exact (HX.out.c.below hU).cell 0 _ rfl, hc⟩
      have HND : Hid (∀ U, Below V.heap.size V U → Calls Try.prog 32 #[.agg #[.int .i64 x.N, .slice x.dA x.dm x.dc, .slice x.tA x.tm x.tc, .slice x.A x.m x.c, .slice x.B x.k x.d], .int .i64 y] U fun e w' => e = .returned (.int .i64 nn) ∧ Hid (Below U.heap.size U w')) := fun U hU => dnode_b x y nn U HN1.out.1 HN1.out.2 (HX.out.w.below hU).at_
      have HIZ : Hid (∀ U, Below V.heap.size V U → U.cell? ⟨b2, 1, none⟩ = some (.slice (some adN) q.nm q.nc) ∧ U.cell? (adN.add k) = some (.int .i64 z)) := fun U hU => by
        obtain ⟨ad', hA', hc⟩ := (HX.out.at_.below hU).nn.at_i HZ.out
        obtain rfl := Option.some.inj (HAN.out.symm.trans hA')
        exact ⟨by rw [← HAN.out]; exact qrc1 (HX.out.c.below hU), hc⟩
      have y0 := HC0.out _ HD.out
      go_upto_region 9 with fail
      clear y0
      refine wp_region_held_drew (S := (fun U : World => U.cell? ⟨b1, 0, none⟩ = some (.int .i64 x.N) ∧ U.cell? ⟨b1, 1, none⟩ = some (.slice x.dA x.dm x.dc) ∧ U.cell? ⟨b1, 2, none⟩ = some (.slice x.tA x.tm x.tc) ∧ U.cell? ⟨b1, 3, none⟩ = some (.slice x.A x.m x.c) ∧ U.cell? ⟨b1, 4, none⟩ = some (.slice x.B x.k x.d) ∧ U.cell? ⟨b2, 0, none⟩ = some (.slice (some ad) q.im q.ic) ∧ U.cell? (ad.add k) = some (.int .i64 y))) (by kernel_rfl) (by (try dsimp only); exact HIN.out _ HD.out.drew) (fun hHeld => ?_)
      refine wpAnyH_take (i := 0) (v := ?_) (by simp only [List.getElem?_toArray, List.getElem?_cons_zero]; exact rfl) (by kernel_rfl) (by kernel_rfl) (by kernel_rfl) (by exact fun _ _ _ h => h) (Or.inl ⟨by rfl, ?_⟩) (by assumption) ?_
      rotate_left
      · intro w hSw; (try dsimp only at hSw); go_simp <;> with_reducible rfl
      try simp only [Act.put, List.setIfInBounds_toArray, List.set_cons_zero, List.set_cons_succ]
      refine wpAnyH_take (i := 1) (v := ?_) (by simp only [List.getElem?_toArray, List.getElem?_cons_succ, List.getElem?_cons_zero]; exact rfl) (by kernel_rfl) (by kernel_rfl) (by kernel_rfl) (by exact fun _ _ _ h => h) (Or.inl ⟨by rfl, ?_⟩) (by assumption) ?_
      rotate_left
      · intro w hSw; (try dsimp only at hSw); go_simp <;> with_reducible rfl
      try simp only [Act.put, List.setIfInBounds_toArray, List.set_cons_zero, List.set_cons_succ]
      refine wpAnyH_take (i := 2) (v := ?_) (by simp only [List.getElem?_toArray, List.getElem?_cons_succ, List.getElem?_cons_zero]; exact rfl) (by kernel_rfl) (by kernel_rfl) (by kernel_rfl) (by exact fun _ _ _ h => h) (Or.inl ⟨by rfl, ?_⟩) (by assumption) ?_
      rotate_left
      · intro w hSw; (try dsimp only at hSw); go_simp <;> with_reducible rfl
      try simp only [Act.put, List.setIfInBounds_toArray, List.set_cons_zero, List.set_cons_succ]
      refine wpAnyH_take (i := 3) (v := ?_) (by simp only [List.getElem?_toArray, List.getElem?_cons_succ, List.getElem?_cons_zero]; exact rfl) (by kernel_rfl) (by kernel_rfl) (by kernel_rfl) (by exact fun _ _ _ h => h) (Or.inl ⟨by rfl, ?_⟩) (by assumption) ?_
      rotate_left
      · intro w hSw; (try dsimp only at hSw); go_simp <;> with_reducible rfl
      try simp only [Act.put, List.setIfInBounds_toArray, List.set_cons_zero, List.set_cons_succ]
      refine wpAnyH_take (i := 4) (v := ?_) (by simp only [List.getElem?_toArray, List.getElem?_cons_succ, List.getElem?_cons_zero]; exact rfl) (by kernel_rfl) (by kernel_rfl) (by kernel_rfl) (by exact fun _ _ _ h => h) (Or.inl ⟨by rfl, ?_⟩) (by assumption) ?_
      rotate_left
      · intro w hSw; (try dsimp only at hSw); go_simp <;> with_reducible rfl
      try simp only [Act.put, List.setIfInBounds_toArray, List.set_cons_zero, List.set_cons_succ]
      refine wpAnyH_take (i := 5) (v := ?_) (by simp only [List.getElem?_toArray, List.getElem?_cons_succ, List.getElem?_cons_zero]; exact rfl) (by kernel_rfl) (by kernel_rfl) (by kernel_rfl) (by exact fun _ _ _ h => h) (Or.inl ⟨by rfl, ?_⟩) (by assumption) ?_
      rotate_left
      · intro w hSw; (try dsimp only at hSw); go_simp <;> with_reducible rfl
      try simp only [Act.put, List.setIfInBounds_toArray, List.set_cons_zero, List.set_cons_succ]
      refine wpAnyH_ready (rs := [6]) (by kernel_rfl) (by simp) ?_
      refine AllReadyH.cons (by simp only [List.getElem?_toArray, List.getElem?_cons_succ, List.getElem?_cons_zero]; exact rfl) (fun K hK => ?_) AllReadyH.nil
      go_simp
      go_at_call 32
      with_reducible refine (HND.out _ HD.out.drew).mono ?_
      rintro e w5 ⟨rfl, k5⟩
      go_wp2_with fail
      have HD5 := Lib.hid (below_next HD.out.drew k5.out)
      clear hHeld
      refine hK.out _ _ ?_ (fun hHeld => ?_)
      · (try dsimp only); exact HIN.out _ HD5.out
      clear hK K
      try simp only [Act.put, List.setIfInBounds_toArray, List.set_cons_zero, List.set_cons_succ]
      refine wpAnyH_take (i := 7) (v := ?_) (by simp only [List.getElem?_toArray, List.getElem?_cons_succ, List.getElem?_cons_zero]; exact rfl) (by kernel_rfl) (by kernel_rfl) (by kernel_rfl) (by exact fun _ _ _ h => h) (Or.inl ⟨by rfl, ?_⟩) (by assumption) ?_
      rotate_left
      · intro w hSw; (try dsimp only at hSw); go_simp <;> with_reducible rfl
      try simp only [Act.put, List.setIfInBounds_toArray, List.set_cons_zero, List.set_cons_succ]
      refine wpAnyH_done (by kernel_rfl) ?_ _
      rotate_left
      clear hHeld k5
      obtain ⟨z0, hz0⟩ : ∃ z, Ar.at2 x.N x.D 0 nn = z := ⟨_, rfl⟩
      obtain ⟨t0, ht0⟩ : ∃ z, Ar.at2 x.N x.T 0 nn = z := ⟨_, rfl⟩
      have HZ0 := Lib.hid (And.intro hz0 ht0)
      obtain ⟨b0, hb0⟩ : ∃ z, Ar.at2 x.N x.D nn 0 = z := ⟨_, rfl⟩
      obtain ⟨bt, hbt⟩ : ∃ z, Ar.at2 x.N x.T nn 0 = z := ⟨_, rfl⟩
      have HBZ := Lib.hid (And.intro hb0 hbt)
      clear hz0 ht0 hb0 hbt
      have HL1 : Hid (∀ U, Below V.heap.size V U → Calls Try.prog 33 #[.agg #[.int .i64 x.N, .slice x.dA x.dm x.dc, .slice x.tA x.tm x.tc], .int .i64 0, .int .i64 nn] U fun e w' => e = .returned (.tuple #[.int .i64 z0, .int .i64 t0, .int .i64 0]) ∧ Hid (Below U.heap.size U w')) := fun U hU => HLG.out U 0 nn z0 t0 (HX.out.w.below hU).at_ H00.out HTO.out HZ0.out
      have HL2 : Hid (∀ U, Below V.heap.size V U → Calls Try.prog 33 #[.agg #[.int .i64 x.N, .slice x.dA x.dm x.dc, .slice x.tA x.tm x.tc], .int .i64 nn, .int .i64 0] U fun e w' => e = .returned (.tuple #[.int .i64 b0, .int .i64 bt, .int .i64 0]) ∧ Hid (Below U.heap.size U w')) := fun U hU => HLG.out U nn 0 b0 bt (HX.out.w.below hU).at_ HTO.out H00.out HBZ.out
      have x0 := (HX.out.w.below HD5.out).c0
      have x1 := (HX.out.w.below HD5.out).c1
      have x2 := (HX.out.w.below HD5.out).c2
      go_wp2_with fail
      clear x0 x1 x2
      with_reducible refine (HL1.out _ HD5.out).mono ?_
      rintro e w6 ⟨rfl, k6⟩
      have HD6 := Lib.hid (below_next HD5.out k6.out)
      clear k6 HD5 HL1
      have x0 := (HX.out.w.below HD6.out).c0
      have x1 := (HX.out.w.below HD6.out).c1
      have x2 := (HX.out.w.below HD6.out).c2
      go_wp2_with fail
      clear x0 x1 x2
      with_reducible refine (HL2.out _ HD6.out).mono ?_
      rintro e w7 ⟨rfl, k7⟩
      have HD7' := Lib.hid (below_next HD6.out k7.out)
      clear k7 HD6 HL2 HIN HND HD
      obtain ⟨y1, z1⟩ := HIZ.out _ HD7'.out
      have y2 := qrc2 (HX.out.c.below HD7'.out)
      by_cases hc : z < 0
      · have c0 : decide (z < (0 : Int)) = true := decide_eq_true hc
        have HCND := Lib.hid hc
        clear hc
        have HF : Hid (r = false) := HNO.out fun h => absurd (h.inn k o z (by rw [HL.out]; exact HO.out) HZ.out).1 (by have := HCND.out; omega)
        go_wp2
        go_ret
        exact ⟨by rw [HF.out]; rfl, below_next HB0.out HD7'.out⟩
      have c0 : decide (z < (0 : Int)) = false := decide_eq_false hc
      have HC1 : Hid (0 ≤ z) := by unfold Hid; omega
      clear hc
      by_cases hc : z0 < z
      · have c1 : decide (z0 < z) = true := decide_eq_true hc
        have HCND := Lib.hid hc
        clear hc
        have HF : Hid (r = false) := HNO.out fun h => (by have h1 := (h.inn k o z (by rw [HL.out]; exact HO.out) HZ.out).2.1; rw [HNN2.out, HZ0.out.1] at h1; have := HCND.out; omega)
        go_wp2
        go_ret
        exact ⟨by rw [HF.out]; rfl, below_next HB0.out HD7'.out⟩
      have c1 : decide (z0 < z) = false := decide_eq_false hc
      have HC2 : Hid (z ≤ z0) := by unfold Hid; omega
      clear hc
      by_cases hc : q.back < 0
      · have c2 : decide (q.back < (0 : Int)) = true := decide_eq_true hc
        have HCND := Lib.hid hc
        clear hc
        have HF : Hid (r = false) := HNO.out fun h => (by have h1 : 0 ≤ q.back := (h.back HI0.out).1; have := HCND.out; omega)
        go_wp2
        go_ret
        exact ⟨by rw [HF.out]; rfl, below_next HB0.out HD7'.out⟩
      have c2 : decide (q.back < (0 : Int)) = false := decide_eq_false hc
      have HC3 : Hid (0 ≤ q.back) := by unfold Hid; omega
      clear hc
      by_cases hc : b0 < q.back
      · have c3 : decide (b0 < q.back) = true := decide_eq_true hc
        have HCND := Lib.hid hc
        clear hc
        have HF : Hid (r = false) := HNO.out fun h => (by have h1 : q.back ≤ _ := (h.back HI0.out).2 o (by rw [HL.out]; exact List.mem_of_getElem? HO.out); rw [HNN2.out, HBZ.out.1] at h1; have := HCND.out; omega)
        go_wp2
        go_ret
        exact ⟨by rw [HF.out]; rfl, below_next HB0.out HD7'.out⟩
      have c3 : decide (b0 < q.back) = false := decide_eq_false hc
      have HC4 : Hid (q.back ≤ b0) := by unfold Hid; omega
      clear hc
      go_wp2_with fail
      clear y1 z1 y2 c0 c1 c2 c3
      go_loopg [14] q.im (fun gi s14 W => ∃ (j : Nat) (W1 : World), W1 = W ∧ j + gi = q.im ∧ s14 = .int .i64 (j : Int) ∧ Hid (∀ (i : Nat) (p : Ld.O), i < j → i ≠ k → L[i]? = some p → z ≤ Ar.at2 x.N x.D p.node nn) ∧ Hid (Below V.heap.size V W1))
      case atStart => exact ⟨0, _, rfl, by omega, rfl, (fun i p h => absurd h (Nat.not_lt_zero i)), HD7'.out⟩
      case round =>
        clear HD7'
        obtain ⟨j, W1, rfl, hjg, rfl, HPJ, HD7⟩ := hrel
        by_cases hlj : j < q.im
        · obtain ⟨gi, rfl⟩ : ∃ i, gk = i + 1 := ⟨gk - 1, by omega⟩
          obtain ⟨yj, hyj⟩ := mlist_at q.ids j (by rw [HIL.out]; exact hlj)
          have HYj := Lib.hid hyj
          obtain ⟨p, hp, hpy, hpf⟩ := HLY.out j yj hyj
          have HP := Lib.hid hp
          obtain ⟨pn, hpn⟩ : ∃ z, p.node = z := ⟨_, rfl⟩
          have HPN := Lib.hid hpn
          have HN2 : Hid (¬ Ld.findI (x.os.map Ld.O.id) yj = -1 ∧ (Rt.ordAt x.os yj).node = pn) := ⟨hpf, by rw [hpy]; exact hpn⟩
          have HFR : Hid (Ar.hasB x.N pn = true) := by unfold Hid; rw [← hpn]; exact HNO2.out p (List.mem_of_getElem? hp)
          obtain ⟨d, hd⟩ : ∃ z, Ar.at2 x.N x.D pn nn = z := ⟨_, rfl⟩
          obtain ⟨dt, hdt⟩ : ∃ z, Ar.at2 x.N x.T pn nn = z := ⟨_, rfl⟩
          have HZD := Lib.hid (And.intro hd hdt)
          have j1 : (0 : Int) ≤ (j : Int) := by omega
          have j2 : (j : Int) < (q.im : Int) := by omega
          clear hyj hp hpy hpf hpn hd hdt
          have HINj : Hid (∀ U, Below V.heap.size V U → U.cell? ⟨b1, 0, none⟩ = some (.int .i64 x.N) ∧ U.cell? ⟨b1, 1, none⟩ = some (.slice x.dA x.dm x.dc) ∧ U.cell? ⟨b1, 2, none⟩ = some (.slice x.tA x.tm x.tc) ∧ U.cell? ⟨b1, 3, none⟩ = some (.slice x.A x.m x.c) ∧ U.cell? ⟨b1, 4, none⟩ = some (.slice x.B x.k x.d) ∧ U.cell? ⟨b2, 0, none⟩ = some (.slice (some ad) q.im q.ic) ∧ U.cell? (ad.add j) = some (.int .i64 yj)) := fun U hU => by
            have hw := HX.out.w.below hU
            obtain ⟨ad', hA', hc⟩ := (HX.out.at_.below hU).ii.at_i HYj.out
            obtain rfl := Option.some.inj (HAD.out.symm.trans hA')
            exact ⟨hw.c0, hw.c1, hw.c2, hw.c3, hw.c4, by rw [← HAD.out]; exact (HX.out.c.below hU).cell 0 _ rfl, hc⟩
          have HNDj : Hid (∀ U, Below V.heap.size V U → Calls Try.prog 32 #[.agg #[.int .i64 x.N, .slice x.dA x.dm x.dc, .slice x.tA x.tm x.tc, .slice x.A x.m x.c, .slice x.B x.k x.d], .int .i64 yj] U fun e w' => e = .returned (.int .i64 pn) ∧ Hid (Below U.heap.size U w')) := fun U hU => dnode_b x yj pn U HN2.out.1 HN2.out.2 (HX.out.w.below hU).at_
          have HLGj : Hid (∀ U, Below V.heap.size V U → Calls Try.prog 33 #[.agg #[.int .i64 x.N, .slice x.dA x.dm x.dc, .slice x.tA x.tm x.tc], .int .i64 pn, .int .i64 nn] U fun e w' => e = .returned (.tuple #[.int .i64 d, .int .i64 dt, .int .i64 0]) ∧ Hid (Below U.heap.size U w')) := fun U hU => HLG.out U pn nn d dt (HX.out.w.below hU).at_ HFR.out HTO.out HZD.out
          have y0 := HC0.out _ HD7.out
          go_upto_region 17 with fail
          clear y0
          refine wp_region_held_drew (S := (fun U : World => U.cell? ⟨b1, 0, none⟩ = some (.int .i64 x.N) ∧ U.cell? ⟨b1, 1, none⟩ = some (.slice x.dA x.dm x.dc) ∧ U.cell? ⟨b1, 2, none⟩ = some (.slice x.tA x.tm x.tc) ∧ U.cell? ⟨b1, 3, none⟩ = some (.slice x.A x.m x.c) ∧ U.cell? ⟨b1, 4, none⟩ = some (.slice x.B x.k x.d) ∧ U.cell? ⟨b2, 0, none⟩ = some (.slice (some ad) q.im q.ic) ∧ U.cell? (ad.add j) = some (.int .i64 yj))) (by kernel_rfl) (by (try dsimp only); exact HINj.out _ HD7.out.drew) (fun hHeld => ?_)
          refine wpAnyH_take (i := 0) (v := ?_) (by simp only [List.getElem?_toArray, List.getElem?_cons_zero]; exact rfl) (by kernel_rfl) (by kernel_rfl) (by kernel_rfl) (by exact fun _ _ _ h => h) (Or.inl ⟨by rfl, ?_⟩) (by assumption) ?_
          rotate_left
          · intro w hSw; (try dsimp only at hSw); go_simp <;> with_reducible rfl
          try simp only [Act.put, List.setIfInBounds_toArray, List.set_cons_zero, List.set_cons_succ]
          refine wpAnyH_take (i := 1) (v := ?_) (by simp only [List.getElem?_toArray, List.getElem?_cons_succ, List.getElem?_cons_zero]; exact rfl) (by kernel_rfl) (by kernel_rfl) (by kernel_rfl) (by exact fun _ _ _ h => h) (Or.inl ⟨by rfl, ?_⟩) (by assumption) ?_
          rotate_left
          · intro w hSw; (try dsimp only at hSw); go_simp <;> with_reducible rfl
          try simp only [Act.put, List.setIfInBounds_toArray, List.set_cons_zero, List.set_cons_succ]
          refine wpAnyH_take (i := 2) (v := ?_) (by simp only [List.getElem?_toArray, List.getElem?_cons_succ, List.getElem?_cons_zero]; exact rfl) (by kernel_rfl) (by kernel_rfl) (by kernel_rfl) (by exact fun _ _ _ h => h) (Or.inl ⟨by rfl, ?_⟩) (by assumption) ?_
          rotate_left
          · intro w hSw; (try dsimp only at hSw); go_simp <;> with_reducible rfl
          try simp only [Act.put, List.setIfInBounds_toArray, List.set_cons_zero, List.set_cons_succ]
          refine wpAnyH_take (i := 3) (v := ?_) (by simp only [List.getElem?_toArray, List.getElem?_cons_succ, List.getElem?_cons_zero]; exact rfl) (by kernel_rfl) (by kernel_rfl) (by kernel_rfl) (by exact fun _ _ _ h => h) (Or.inl ⟨by rfl, ?_⟩) (by assumption) ?_
          rotate_left
          · intro w hSw; (try dsimp only at hSw); go_simp <;> with_reducible rfl
          try simp only [Act.put, List.setIfInBounds_toArray, List.set_cons_zero, List.set_cons_succ]
          refine wpAnyH_take (i := 4) (v := ?_) (by simp only [List.getElem?_toArray, List.getElem?_cons_succ, List.getElem?_cons_zero]; exact rfl) (by kernel_rfl) (by kernel_rfl) (by kernel_rfl) (by exact fun _ _ _ h => h) (Or.inl ⟨by rfl, ?_⟩) (by assumption) ?_
          rotate_left
          · intro w hSw; (try dsimp only at hSw); go_simp <;> with_reducible rfl
          try simp only [Act.put, List.setIfInBounds_toArray, List.set_cons_zero, List.set_cons_succ]
          refine wpAnyH_take (i := 5) (v := ?_) (by simp only [List.getElem?_toArray, List.getElem?_cons_succ, List.getElem?_cons_zero]; exact rfl) (by kernel_rfl) (by kernel_rfl) (by kernel_rfl) (by exact fun _ _ _ h => h) (Or.inl ⟨by rfl, ?_⟩) (by assumption) ?_
          rotate_left
          · intro w hSw; (try dsimp only at hSw); go_simp <;> with_reducible rfl
          try simp only [Act.put, List.setIfInBounds_toArray, List.set_cons_zero, List.set_cons_succ]
          refine wpAnyH_take (i := 6) (v := ?_) (by simp only [List.getElem?_toArray, List.getElem?_cons_succ, List.getElem?_cons_zero]; exact rfl) (by kernel_rfl) (by kernel_rfl) (by kernel_rfl) (by exact fun _ _ _ h => h) (Or.inl ⟨by rfl, ?_⟩) (by assumption) ?_
          rotate_left
          · intro w hSw; (try dsimp only at hSw); go_simp <;> with_reducible rfl
          try simp only [Act.put, List.setIfInBounds_toArray, List.set_cons_zero, List.set_cons_succ]
          refine wpAnyH_take (i := 7) (v := ?_) (by simp only [List.getElem?_toArray, List.getElem?_cons_succ, List.getElem?_cons_zero]; exact rfl) (by kernel_rfl) (by kernel_rfl) (by kernel_rfl) (by exact fun _ _ _ h => h) (Or.inl ⟨by rfl, ?_⟩) (by assumption) ?_
          rotate_left
          · intro w hSw; (try dsimp only at hSw); go_simp <;> with_reducible rfl
          try simp only [Act.put, List.setIfInBounds_toArray, List.set_cons_zero, List.set_cons_succ]
          refine wpAnyH_take (i := 9) (v := ?_) (by simp only [List.getElem?_toArray, List.getElem?_cons_succ, List.getElem?_cons_zero]; exact rfl) (by kernel_rfl) (by kernel_rfl) (by kernel_rfl) (by exact fun _ _ _ h => h) (Or.inl ⟨by rfl, ?_⟩) (by assumption) ?_
          rotate_left
          · intro w hSw; (try dsimp only at hSw); go_simp <;> with_reducible rfl
          try simp only [Act.put, List.setIfInBounds_toArray, List.set_cons_zero, List.set_cons_succ]
          refine wpAnyH_ready (rs := [8]) (by kernel_rfl) (by simp) ?_
          refine AllReadyH.cons (by simp only [List.getElem?_toArray, List.getElem?_cons_succ, List.getElem?_cons_zero]; exact rfl) (fun K hK => ?_) AllReadyH.nil
          go_simp
          go_at_call 32
          with_reducible refine (HNDj.out _ HD7.out.drew).mono ?_
          rintro e w9 ⟨rfl, k9⟩
          go_wp2_with fail
          have HD9 := Lib.hid (below_next HD7.out.drew k9.out)
          clear hHeld
          refine hK.out _ _ ?_ (fun hHeld => ?_)
          · (try dsimp only); exact HINj.out _ HD9.out
          clear hK K
          try simp only [Act.put, List.setIfInBounds_toArray, List.set_cons_zero, List.set_cons_succ]
          refine wpAnyH_ready (rs := [10]) (by kernel_rfl) (by simp) ?_
          refine AllReadyH.cons (by simp only [List.getElem?_toArray, List.getElem?_cons_succ, List.getElem?_cons_zero]; exact rfl) (fun K hK => ?_) AllReadyH.nil
          go_simp
          go_at_call 33
          with_reducible refine (HLGj.out _ HD9.out).mono ?_
          rintro e w10 ⟨rfl, k10⟩
          go_wp2_with fail
          have HD10 := Lib.hid (below_next HD9.out k10.out)
          clear hHeld
          refine hK.out _ _ ?_ (fun hHeld => ?_)
          · (try dsimp only); exact HINj.out _ HD10.out
          clear hK K
          try simp only [Act.put, List.setIfInBounds_toArray, List.set_cons_zero, List.set_cons_succ]
          refine wpAnyH_take (i := 11) (v := ?_) (by simp only [List.getElem?_toArray, List.getElem?_cons_succ, List.getElem?_cons_zero]; exact rfl) (by kernel_rfl) (by kernel_rfl) (by kernel_rfl) (by exact fun _ _ _ h => h) (Or.inl ⟨by rfl, ?_⟩) (by assumption) ?_
          rotate_left
          · intro w hSw; (try dsimp only at hSw); go_simp <;> with_reducible rfl
          try simp only [Act.put, List.setIfInBounds_toArray, List.set_cons_zero, List.set_cons_succ]
          refine wpAnyH_take (i := 12) (v := ?_) (by simp only [List.getElem?_toArray, List.getElem?_cons_succ, List.getElem?_cons_zero]; exact rfl) (by kernel_rfl) (by kernel_rfl) (by kernel_rfl) (by exact fun _ _ _ h => h) (Or.inl ⟨by rfl, ?_⟩) (by assumption) ?_
          rotate_left
          · intro w hSw; (try dsimp only at hSw); go_simp <;> with_reducible rfl
          try simp only [Act.put, List.setIfInBounds_toArray, List.set_cons_zero, List.set_cons_succ]
          refine wpAnyH_take (i := 13) (v := ?_) (by simp only [List.getElem?_toArray, List.getElem?_cons_succ, List.getElem?_cons_zero]; exact rfl) (by kernel_rfl) (by kernel_rfl) (by kernel_rfl) (by exact fun _ _ _ h => h) (Or.inl ⟨by rfl, ?_⟩) (by assumption) ?_
          rotate_left
          · intro w hSw; (try dsimp only at hSw); go_simp <;> with_reducible rfl
          try simp only [Act.put, List.setIfInBounds_toArray, List.set_cons_zero, List.set_cons_succ]
          refine wpAnyH_take (i := 14) (v := ?_) (by simp only [List.getElem?_toArray, List.getElem?_cons_succ, List.getElem?_cons_zero]; exact rfl) (by kernel_rfl) (by kernel_rfl) (by kernel_rfl) (by exact fun _ _ _ h => h) (Or.inl ⟨by rfl, ?_⟩) (by assumption) ?_
          rotate_left
          · intro w hSw; (try dsimp only at hSw); go_simp <;> with_reducible rfl
          try simp only [Act.put, List.setIfInBounds_toArray, List.set_cons_zero, List.set_cons_succ]
          refine wpAnyH_take (i := 15) (v := ?_) (by simp only [List.getElem?_toArray, List.getElem?_cons_succ, List.getElem?_cons_zero]; exact rfl) (by kernel_rfl) (by kernel_rfl) (by kernel_rfl) (by exact fun _ _ _ h => h) (Or.inl ⟨by rfl, ?_⟩) (by assumption) ?_
          rotate_left
          · intro w hSw; (try dsimp only at hSw); go_simp <;> with_reducible rfl
          try simp only [Act.put, List.setIfInBounds_toArray, List.set_cons_zero, List.set_cons_succ]
          refine wpAnyH_take (i := 16) (v := ?_) (by simp only [List.getElem?_toArray, List.getElem?_cons_succ, List.getElem?_cons_zero]; exact rfl) (by kernel_rfl) (by kernel_rfl) (by kernel_rfl) (by exact fun _ _ _ h => h) (Or.inl ⟨by rfl, ?_⟩) (by assumption) ?_
          rotate_left
          · intro w hSw; (try dsimp only at hSw); go_simp <;> with_reducible rfl
          try simp only [Act.put, List.setIfInBounds_toArray, List.set_cons_zero, List.set_cons_succ]
          refine wpAnyH_take (i := 17) (v := ?_) (by simp only [List.getElem?_toArray, List.getElem?_cons_succ, List.getElem?_cons_zero]; exact rfl) (by kernel_rfl) (by kernel_rfl) (by kernel_rfl) (by exact fun _ _ _ h => h) (Or.inl ⟨by rfl, ?_⟩) (by assumption) ?_
          rotate_left
          · intro w hSw; (try dsimp only at hSw); go_simp <;> with_reducible rfl
          try simp only [Act.put, List.setIfInBounds_toArray, List.set_cons_zero, List.set_cons_succ]
          refine wpAnyH_done (by kernel_rfl) ?_ _
          rotate_left
          clear hHeld k9 k10
          obtain ⟨y1, z1⟩ := HIZ.out _ HD10.out
          by_cases hjk : j = k
          · have e1 : ((j : Int) != (k : Int)) = false := by rw [hjk]; simp
            have e1n : (j != k) = false := by rw [hjk]; simp
            have HNX : Hid (∀ (i : Nat) (p : Ld.O), i < j + 1 → i ≠ k → L[i]? = some p → z ≤ Ar.at2 x.N x.D p.node nn) := fun i p hi hk hp => by
              rcases Nat.lt_or_ge i j with h | h
              · exact HPJ.out i p h hk hp
              · exact absurd (by omega) hk
            clear hjk
            go_wp2_with fail
            go_roundg gi
            case measure => omega
            case rel => exact ⟨j + 1, _, rfl, by omega, by first | rfl | go_num, HNX, HD10.out⟩
          · have e1 : ((j : Int) != (k : Int)) = true := bne_iff_ne.2 (by omega)
            have e1n : (j != k) = true := bne_iff_ne.2 hjk
            have HJK : Hid (¬ j = k) := hjk
            clear hjk
            by_cases hc : d < z
            · have c0 : decide (d < z) = true := decide_eq_true hc
              have HCND := Lib.hid hc
              clear hc
              have HF : Hid (r = false) := HNO.out fun h => (by have h1 := (h.inn k o z (by rw [HL.out]; exact HO.out) HZ.out).2.2 j p HJK.out (by rw [HL.out]; exact HP.out); rw [HNN2.out, HPN.out, HZD.out.1] at h1; have := HCND.out; omega)
              go_wp2
              go_ret
              exact ⟨by rw [HF.out]; rfl, below_next HB0.out HD10.out⟩
            · have c0 : decide (d < z) = false := decide_eq_false hc
              have HCND : Hid (z ≤ d) := by unfold Hid; omega
              clear hc
              have HNX : Hid (∀ (i : Nat) (p : Ld.O), i < j + 1 → i ≠ k → L[i]? = some p → z ≤ Ar.at2 x.N x.D p.node nn) := fun i p hi hk hp => by
                rcases Nat.lt_or_ge i j with h | h
                · exact HPJ.out i p h hk hp
                · obtain rfl : i = j := by omega
                  obtain rfl := Option.some.inj (HP.out.symm.trans hp)
                  rw [HPN.out, HZD.out.1]
                  exact HCND.out
              go_wp2_with fail
              go_roundg gi
              case measure => omega
              case rel => exact ⟨j + 1, _, rfl, by omega, by first | rfl | go_num, HNX, HD10.out⟩
        · have HPA : Hid (∀ (i : Nat) (p : Ld.O), i ≠ k → L[i]? = some p → z ≤ Ar.at2 x.N x.D p.node nn) := fun i p hk hp => HPJ.out i p (by have h1 := (List.getElem?_eq_some_iff.1 hp).1; rw [HLN2.out] at h1; omega) hk hp
          have HPK2 : Hid (∀ (i : Nat) (o : Ld.O) (z : Int), i < k + 1 → L[i]? = some o → q.inn[i]? = some z → (0 ≤ z ∧ z ≤ Ar.at2 x.N x.D 0 o.node ∧ ∀ (j : Nat) (p : Ld.O), j ≠ i → L[j]? = some p → z ≤ Ar.at2 x.N x.D p.node o.node) ∧ 0 ≤ q.back ∧ q.back ≤ Ar.at2 x.N x.D o.node 0) := fun i o' z' hi ho' hz' => by
            rcases Nat.lt_or_ge i k with h | h
            · exact HPK.out i o' z' h ho' hz'
            · obtain rfl : i = k := by omega
              obtain rfl := Option.some.inj (HO.out.symm.trans ho')
              obtain rfl := Option.some.inj (HZ.out.symm.trans hz')
              rw [HNN2.out, HZ0.out.1, HBZ.out.1]
              exact ⟨⟨HC1.out, HC2.out, HPA.out⟩, HC3.out, HC4.out⟩
          have HALN : Hid (al + z = q.back + (q.inn.take (k + 1)).sum) := by
            unfold Hid
            rw [List.take_add_one, HZ.out]
            show _ = q.back + (q.inn.take k ++ [z]).sum
            rw [sum_one, HAL.out]
            omega
          have wa : IntKind.i64.wrap (al + z) = al + z := by
            have hs := Bo.sum_le 1000000 (q.inn.take (k + 1)) fun z' hz' => by
              obtain ⟨i, hi⟩ := List.getElem?_of_mem hz'
              have hlt2 : i < k + 1 := by
                have h1 := (List.getElem?_eq_some_iff.1 hi).1
                rw [List.length_take] at h1
                omega
              have hi2 : q.inn[i]? = some z' := by rw [List.getElem?_take, if_pos hlt2] at hi; exact hi
              obtain ⟨o', ho'⟩ := mlist_at L i (by rw [HLN2.out]; omega)
              have h1 := HPK2.out i o' z' hlt2 ho' hi2
              exact ⟨h1.1.1, Int.le_trans h1.1.2.1 (HATD.out _ _ H00.out (HNO2.out o' (List.mem_of_getElem? ho'))).2⟩
            rw [List.length_take, HNL.out] at hs
            have h2 := (HATD.out nn 0 HTO.out H00.out).2
            rw [HBZ.out.1] at h2
            have h3 := HC3.out
            have h4 := HC4.out
            have h5 := HALN.out
            exact IntWalk.i64_in _ (by omega)
          obtain ⟨y1, z1⟩ := HIZ.out _ HD7.out
          have y0 := HC0.out _ HD7.out
          go_wp2_with fail
          clear wa
          go_roundg go
          case measure => omega
          case rel => exact ⟨k + 1, _, al + z, rfl, by omega, rfl, by first | rfl | go_num, HALN, HPK2, HD7.out⟩
    · obtain ⟨b21, hb21⟩ : ∃ b : Bool, b = true ↔ (q.rate < 0 ∨ q.fixed < 0 ∨ x.k = 0 ∧ (0 < q.rate ∨ 0 < q.fixed)) := by
        by_cases h : q.rate < 0 ∨ q.fixed < 0 ∨ x.k = 0 ∧ (0 < q.rate ∨ 0 < q.fixed)
        · exact ⟨true, by simp [h]⟩
        · exact ⟨false, by simp only [h]; simp⟩
      have HB21 := Lib.hid hb21
      clear hb21
      have HKE : Hid (k = q.im) := by unfold Hid; omega
      have HAL2 : Hid (al = q.back + q.inn.sum) := by unfold Hid; rw [HAL.out, List.take_of_length_le (by rw [HNL.out, HLE.out, HKE.out]; exact Nat.le_refl _)]
      have HPA : Hid (∀ (i : Nat) (o : Ld.O) (z : Int), L[i]? = some o → q.inn[i]? = some z → (0 ≤ z ∧ z ≤ Ar.at2 x.N x.D 0 o.node ∧ ∀ (j : Nat) (p : Ld.O), j ≠ i → L[j]? = some p → z ≤ Ar.at2 x.N x.D p.node o.node) ∧ 0 ≤ q.back ∧ q.back ≤ Ar.at2 x.N x.D o.node 0) := fun i o z ho hz => HPK.out i o z (by have h1 := (List.getElem?_eq_some_iff.1 ho).1; rw [HLN2.out] at h1; rw [HKE.out]; exact h1) ho hz
      have HNE0 : Hid (0 < q.im) := Nat.pos_of_ne_zero fun e => HI0.out (List.length_eq_zero_iff.1 (by show q.ids.length = 0; rw [HIL.out, e]))
      have HBK : Hid ((0 ≤ q.back ∧ q.back ≤ 1000000) ∧ ∀ o ∈ L, q.back ≤ Ar.at2 x.N x.D o.node 0) := by
        obtain ⟨o, ho⟩ := mlist_at L 0 (by rw [HLN2.out]; exact HNE0.out)
        obtain ⟨z, hz⟩ := mlist_at q.inn 0 (by rw [HNL.out, HLE.out]; exact HNE0.out)
        have h1 := HPA.out 0 o z ho hz
        refine ⟨⟨h1.2.1, Int.le_trans h1.2.2 (HATD.out _ _ (HNO2.out o (List.mem_of_getElem? ho)) H00.out).2⟩, fun o ho => ?_⟩
        obtain ⟨i, hi⟩ := List.getElem?_of_mem ho
        obtain ⟨z, hz⟩ := mlist_at q.inn i (by have h2 := (List.getElem?_eq_some_iff.1 hi).1; rw [HNL.out, HLE.out, ← HLN2.out]; exact h2)
        exact (HPA.out i o z hi hz).2.2
      have HAB2 : Hid (0 ≤ al ∧ al ≤ 13000000) := by
        have hs := Bo.sum_le 1000000 q.inn fun z' hz' => by
          obtain ⟨i, hi⟩ := List.getElem?_of_mem hz'
          obtain ⟨o', ho'⟩ := mlist_at L i (by have h2 := (List.getElem?_eq_some_iff.1 hi).1; rw [HNL.out, HLE.out] at h2; rw [HLN2.out]; exact h2)
          have h1 := HPA.out i o' z' ho' hi
          exact ⟨h1.1.1, Int.le_trans h1.1.2.1 (HATD.out _ _ H00.out (HNO2.out o' (List.mem_of_getElem? ho'))).2⟩
        rw [HNL.out, HLE.out] at hs
        have h1 := HBK.out.1
        have h2 := HAL2.out
        unfold Hid
        omega
      have HTL := Lib.hid HX.out.w.at_.kl
      have htk := HX.out.w.at_.k2
      have y0 := HC0.out _ HD.out
      clear HAL HPK
      go_upto_region 21 with fail
      clear y0 hkg hlt
      go_cut [182] (fun s182 W => ∃ W1 : World, W1 = W ∧ s182 = .bool b21 ∧ Hid (Below V.heap.size V W1))
      case first => as_aux_lemma =>
        have y3 := qrc3 (HX.out.c.below HD.out)
        have y4 := qrc4 (HX.out.c.below HD.out)
        have x4 := (HX.out.w.below HD.out).c4
        by_cases h1 : q.rate < 0
        · have c1 : decide (q.rate < (0 : Int)) = true := decide_eq_true h1
          have HBX : Hid (b21 = true) := HB21.out.2 (.inl h1)
          go_wp2_with fail
          go_meet
          exact ⟨_, rfl, by rw [HBX.out], HD.out⟩
        have c1 : decide (q.rate < (0 : Int)) = false := decide_eq_false h1
        by_cases h2 : q.fixed < 0
        · have c2 : decide (q.fixed < (0 : Int)) = true := decide_eq_true h2
          have HBX : Hid (b21 = true) := HB21.out.2 (.inr (.inl h2))
          go_wp2_with fail
          go_meet
          exact ⟨_, rfl, by rw [HBX.out], HD.out⟩
        have c2 : decide (q.fixed < (0 : Int)) = false := decide_eq_false h2
        by_cases h3 : x.k = 0
        rotate_left
        · have c3 : ((x.k : Int) == 0) = false := beq_eq_false_iff_ne.2 (by omega)
          have c3n : (x.k == 0) = false := beq_eq_false_iff_ne.2 h3
          have HBX : Hid (b21 = false) := Bool.eq_false_iff.2 fun e => by have := HB21.out.1 e; omega
          clear h3
          go_wp2_with fail
          go_meet
          exact ⟨_, rfl, by rw [HBX.out], HD.out⟩
        have c3 : ((x.k : Int) == 0) = true := by rw [h3]; rfl
        have c3n : (x.k == 0) = true := by rw [h3]; rfl
        by_cases h4 : 0 < q.rate
        · have c4 : decide ((0 : Int) < q.rate) = true := decide_eq_true h4
          have H34 := Lib.hid (And.intro h3 h4)
          clear h3
          have HBX : Hid (b21 = true) := HB21.out.2 (.inr (.inr ⟨H34.out.1, .inl H34.out.2⟩))
          go_wp2_with fail
          go_meet
          exact ⟨_, rfl, by rw [HBX.out], HD.out⟩
        have c4 : decide ((0 : Int) < q.rate) = false := decide_eq_false h4
        by_cases h5 : 0 < q.fixed
        · have c5 : decide ((0 : Int) < q.fixed) = true := decide_eq_true h5
          have H35 := Lib.hid (And.intro h3 h5)
          clear h3
          have HBX : Hid (b21 = true) := HB21.out.2 (.inr (.inr ⟨H35.out.1, .inr H35.out.2⟩))
          go_wp2_with fail
          go_meet
          exact ⟨_, rfl, by rw [HBX.out], HD.out⟩
        have c5 : decide ((0 : Int) < q.fixed) = false := decide_eq_false h5
        have HBX : Hid (b21 = false) := Bool.eq_false_iff.2 fun e => by have := HB21.out.1 e; omega
        clear h3
        go_wp2_with fail
        go_meet
        exact ⟨_, rfl, by rw [HBX.out], HD.out⟩
      case rest =>
        clear HD
        obtain ⟨W1, rfl, rfl, HD⟩ := hcut
        cases b21
        rotate_left
        · have HBT := Lib.hid (HB21.out.1 rfl)
          have HF : Hid (r = false) := HNO.out fun h => by
            have h1 : 0 ≤ q.rate := (h.rate HI0.out).1
            have h2 : 0 ≤ q.fixed := (h.fixed HI0.out).1
            rcases HBT.out with h3 | h3 | ⟨h3, h4⟩
            · omega
            · omega
            · have hts : x.ts = [] := List.length_eq_zero_iff.1 (by rw [HTL.out, h3])
              have h5 : q.rate ≤ 0 := (h.rate HI0.out).2.1 hts
              have h6 : q.fixed ≤ 0 := (h.fixed HI0.out).2.1 hts
              omega
          clear HB21 HBT
          go_wp2
          go_ret
          exact ⟨by rw [HF.out]; rfl, below_next HB0.out HD.out⟩
        have HBF : Hid (0 ≤ q.rate ∧ 0 ≤ q.fixed ∧ (x.ts = [] → q.rate ≤ 0 ∧ q.fixed ≤ 0)) := by
          have h : ¬ (q.rate < 0 ∨ q.fixed < 0 ∨ x.k = 0 ∧ (0 < q.rate ∨ 0 < q.fixed)) := fun e => Bool.false_ne_true (HB21.out.2 e)
          refine ⟨by omega, by omega, fun e => ?_⟩
          have h3 : x.k = 0 := by rw [← HTL.out, e]; rfl
          omega
        clear HB21
        have x4 := (HX.out.w.below HD.out).c4
        go_wp2_with fail
        clear x4
        go_loopg [18] x.k (fun gk s18 W => ∃ (j : Nat) (W1 : World), W1 = W ∧ j + gk = x.k ∧ s18 = .int .i64 (j : Int) ∧ Hid (∀ (i : Nat) (t : Ld.T), i < j → x.ts[i]? = some t → q.rate ≤ t.rate ∧ q.fixed ≤ t.fixed) ∧ Hid (Below V.heap.size V W1))
        case atStart => exact ⟨0, _, rfl, by omega, rfl, (fun i t h => absurd h (Nat.not_lt_zero i)), HD.out⟩
        case round =>
          clear HD
          obtain ⟨j, W1, rfl, hjg, rfl, HPT, HD⟩ := hrel
          by_cases hlj : j < x.k
          · obtain ⟨gj, rfl⟩ : ∃ i, gk = i + 1 := ⟨gk - 1, by omega⟩
            obtain ⟨t, ht⟩ := mlist_at x.ts j (by rw [HTL.out]; exact hlj)
            have HT := Lib.hid ht
            obtain ⟨tr, htr⟩ : ∃ z, t.rate = z := ⟨_, rfl⟩
            obtain ⟨tf, htf⟩ : ∃ z, t.fixed = z := ⟨_, rfl⟩
            have HTR := Lib.hid htr
            have HTF := Lib.hid htf
            obtain ⟨adB, hAB, _⟩ := HX.out.w.at_.ts.at_ ht
            have HAB := Lib.hid hAB
            have j1 : (0 : Int) ≤ (j : Int) := by omega
            have j2 : (j : Int) < (x.k : Int) := by omega
            clear ht htr htf hAB
            have HIR : Hid (∀ U, Below V.heap.size V U → U.cell? ⟨b2, 3, none⟩ = some (.int .i64 q.rate) ∧ U.cell? ⟨b2, 4, none⟩ = some (.int .i64 q.fixed) ∧ U.cell? ⟨b1, 4, none⟩ = some (.slice (some adB) x.k x.d) ∧ U.cell? ⟨(adB.add (j * 7)).block, (adB.add (j * 7)).off + 6, none⟩ = some (.int .i64 tr) ∧ U.cell? ⟨(adB.add (j * 7)).block, (adB.add (j * 7)).off + 5, none⟩ = some (.int .i64 tf)) := fun U hU => by
              obtain ⟨ad', hA', hc⟩ := (HX.out.w.at_.ts.below hU).at_ HT.out
              obtain rfl := Option.some.inj (HAB.out.symm.trans hA')
              exact ⟨qrc3 (HX.out.c.below hU), qrc4 (HX.out.c.below hU), by rw [← HAB.out]; exact (HX.out.w.below hU).c4, by rw [← HTR.out]; exact hc.c6, by rw [← HTF.out]; exact hc.c5⟩
            have x4 : W1.cell? ⟨b1, 4, none⟩ = some (.slice (some adB) x.k x.d) := (HIR.out _ HD.out).2.2.1
            by_cases h1 : tr < q.rate
            · have c1 : decide (tr < q.rate) = true := decide_eq_true h1
              have HCND := Lib.hid h1
              clear h1
              go_upto_region 26 with fail
              clear x4
              refine wp_region_held_drew (S := (fun U : World => U.cell? ⟨b2, 3, none⟩ = some (.int .i64 q.rate) ∧ U.cell? ⟨b2, 4, none⟩ = some (.int .i64 q.fixed) ∧ U.cell? ⟨b1, 4, none⟩ = some (.slice (some adB) x.k x.d) ∧ U.cell? ⟨(adB.add (j * 7)).block, (adB.add (j * 7)).off + 6, none⟩ = some (.int .i64 tr) ∧ U.cell? ⟨(adB.add (j * 7)).block, (adB.add (j * 7)).off + 5, none⟩ = some (.int .i64 tf))) (by kernel_rfl) (by (try dsimp only); exact HIR.out _ HD.out.drew) (fun hHeld => ?_)
              refine wpAnyH_take (i := 0) (v := ?_) (by simp only [List.getElem?_toArray, List.getElem?_cons_zero]; exact rfl) (by kernel_rfl) (by kernel_rfl) (by kernel_rfl) (by exact fun _ _ _ h => h) (Or.inl ⟨by rfl, ?_⟩) (by assumption) ?_
              rotate_left
              · intro w hSw; (try dsimp only at hSw); go_simp <;> with_reducible rfl
              try simp only [Act.put, List.setIfInBounds_toArray, List.set_cons_zero, List.set_cons_succ]
              refine wpAnyH_take (i := 1) (v := ?_) (by simp only [List.getElem?_toArray, List.getElem?_cons_succ, List.getElem?_cons_zero]; exact rfl) (by kernel_rfl) (by kernel_rfl) (by kernel_rfl) (by exact fun _ _ _ h => h) (Or.inl ⟨by rfl, ?_⟩) (by assumption) ?_
              rotate_left
              · intro w hSw; (try dsimp only at hSw); go_simp <;> with_reducible rfl
              try simp only [Act.put, List.setIfInBounds_toArray, List.set_cons_zero, List.set_cons_succ]
              refine wpAnyH_take (i := 2) (v := ?_) (by simp only [List.getElem?_toArray, List.getElem?_cons_succ, List.getElem?_cons_zero]; exact rfl) (by kernel_rfl) (by kernel_rfl) (by kernel_rfl) (by exact fun _ _ _ h => h) (Or.inl ⟨by rfl, ?_⟩) (by assumption) ?_
              rotate_left
              · intro w hSw; (try dsimp only at hSw); go_simp <;> with_reducible rfl
              try simp only [Act.put, List.setIfInBounds_toArray, List.set_cons_zero, List.set_cons_succ]
              refine wpAnyH_take (i := 3) (v := ?_) (by simp only [List.getElem?_toArray, List.getElem?_cons_succ, List.getElem?_cons_zero]; exact rfl) (by kernel_rfl) (by kernel_rfl) (by kernel_rfl) (by exact fun _ _ _ h => h) (Or.inl ⟨by rfl, ?_⟩) (by assumption) ?_
              rotate_left
              · intro w hSw; (try dsimp only at hSw); go_simp <;> with_reducible rfl
              try simp only [Act.put, List.setIfInBounds_toArray, List.set_cons_zero, List.set_cons_succ]
              refine wpAnyH_take (i := 4) (v := ?_) (by simp only [List.getElem?_toArray, List.getElem?_cons_succ, List.getElem?_cons_zero]; exact rfl) (by kernel_rfl) (by kernel_rfl) (by kernel_rfl) (by exact fun _ _ _ h => h) (Or.inl ⟨by rfl, ?_⟩) (by assumption) ?_
              rotate_left
              · intro w hSw; (try dsimp only at hSw); go_simp <;> with_reducible rfl
              try simp only [Act.put, List.setIfInBounds_toArray, List.set_cons_zero, List.set_cons_succ]
              refine wpAnyH_take (i := 5) (v := ?_) (by simp only [List.getElem?_toArray, List.getElem?_cons_succ, List.getElem?_cons_zero]; exact rfl) (by kernel_rfl) (by kernel_rfl) (by kernel_rfl) (by exact fun _ _ _ h => h) (Or.inl ⟨by rfl, ?_⟩) (by assumption) ?_
              rotate_left
              · intro w hSw; (try dsimp only at hSw); go_simp <;> with_reducible rfl
              try simp only [Act.put, List.setIfInBounds_toArray, List.set_cons_zero, List.set_cons_succ]
              refine wpAnyH_take (i := 6) (v := ?_) (by simp only [List.getElem?_toArray, List.getElem?_cons_succ, List.getElem?_cons_zero]; exact rfl) (by kernel_rfl) (by kernel_rfl) (by kernel_rfl) (by exact fun _ _ _ h => h) (Or.inl ⟨by rfl, ?_⟩) (by assumption) ?_
              rotate_left
              · intro w hSw; (try dsimp only at hSw); go_simp <;> with_reducible rfl
              try simp only [Act.put, List.setIfInBounds_toArray, List.set_cons_zero, List.set_cons_succ]
              refine wpAnyH_take (i := 7) (v := ?_) (by simp only [List.getElem?_toArray, List.getElem?_cons_succ, List.getElem?_cons_zero]; exact rfl) (by kernel_rfl) (by kernel_rfl) (by kernel_rfl) (by exact fun _ _ _ h => h) (Or.inl ⟨by rfl, ?_⟩) (by assumption) ?_
              rotate_left
              · intro w hSw; (try dsimp only at hSw); go_simp <;> with_reducible rfl
              try simp only [Act.put, List.setIfInBounds_toArray, List.set_cons_zero, List.set_cons_succ]
              refine wpAnyH_take (i := 8) (v := ?_) (by simp only [List.getElem?_toArray, List.getElem?_cons_succ, List.getElem?_cons_zero]; exact rfl) (by kernel_rfl) (by kernel_rfl) (by kernel_rfl) (by exact fun _ _ _ h => h) (Or.inl ⟨by rfl, ?_⟩) (by assumption) ?_
              rotate_left
              · intro w hSw; (try dsimp only at hSw); go_simp <;> with_reducible rfl
              try simp only [Act.put, List.setIfInBounds_toArray, List.set_cons_zero, List.set_cons_succ]
              refine wpAnyH_take (i := 9) (v := ?_) (by simp only [List.getElem?_toArray, List.getElem?_cons_succ, List.getElem?_cons_zero]; exact rfl) (by kernel_rfl) (by kernel_rfl) (by kernel_rfl) (by exact fun _ _ _ h => h) (Or.inl ⟨by rfl, ?_⟩) (by assumption) ?_
              rotate_left
              · intro w hSw; (try dsimp only at hSw); go_simp <;> with_reducible rfl
              try simp only [Act.put, List.setIfInBounds_toArray, List.set_cons_zero, List.set_cons_succ]
              refine wpAnyH_take (i := 10) (v := undef) (by simp only [List.getElem?_toArray, List.getElem?_cons_succ, List.getElem?_cons_zero]; exact rfl) (by kernel_rfl) (by kernel_rfl) (by kernel_rfl) (by exact fun _ _ _ h => h) (Or.inr ⟨by rfl, rfl⟩) (by assumption) ?_
              try simp only [Act.put, List.setIfInBounds_toArray, List.set_cons_zero, List.set_cons_succ]
              refine wpAnyH_take (i := 11) (v := undef) (by simp only [List.getElem?_toArray, List.getElem?_cons_succ, List.getElem?_cons_zero]; exact rfl) (by kernel_rfl) (by kernel_rfl) (by kernel_rfl) (by exact fun _ _ _ h => h) (Or.inr ⟨by rfl, rfl⟩) (by assumption) ?_
              try simp only [Act.put, List.setIfInBounds_toArray, List.set_cons_zero, List.set_cons_succ]
              refine wpAnyH_take (i := 12) (v := undef) (by simp only [List.getElem?_toArray, List.getElem?_cons_succ, List.getElem?_cons_zero]; exact rfl) (by kernel_rfl) (by kernel_rfl) (by kernel_rfl) (by exact fun _ _ _ h => h) (Or.inr ⟨by rfl, rfl⟩) (by assumption) ?_
              try simp only [Act.put, List.setIfInBounds_toArray, List.set_cons_zero, List.set_cons_succ]
              refine wpAnyH_take (i := 13) (v := undef) (by simp only [List.getElem?_toArray, List.getElem?_cons_succ, List.getElem?_cons_zero]; exact rfl) (by kernel_rfl) (by kernel_rfl) (by kernel_rfl) (by exact fun _ _ _ h => h) (Or.inr ⟨by rfl, rfl⟩) (by assumption) ?_
              try simp only [Act.put, List.setIfInBounds_toArray, List.set_cons_zero, List.set_cons_succ]
              refine wpAnyH_take (i := 14) (v := undef) (by simp only [List.getElem?_toArray, List.getElem?_cons_succ, List.getElem?_cons_zero]; exact rfl) (by kernel_rfl) (by kernel_rfl) (by kernel_rfl) (by exact fun _ _ _ h => h) (Or.inr ⟨by rfl, rfl⟩) (by assumption) ?_
              try simp only [Act.put, List.setIfInBounds_toArray, List.set_cons_zero, List.set_cons_succ]
              refine wpAnyH_take (i := 15) (v := undef) (by simp only [List.getElem?_toArray, List.getElem?_cons_succ, List.getElem?_cons_zero]; exact rfl) (by kernel_rfl) (by kernel_rfl) (by kernel_rfl) (by exact fun _ _ _ h => h) (Or.inr ⟨by rfl, rfl⟩) (by assumption) ?_
              try simp only [Act.put, List.setIfInBounds_toArray, List.set_cons_zero, List.set_cons_succ]
              refine wpAnyH_take (i := 16) (v := undef) (by simp only [List.getElem?_toArray, List.getElem?_cons_succ, List.getElem?_cons_zero]; exact rfl) (by kernel_rfl) (by kernel_rfl) (by kernel_rfl) (by exact fun _ _ _ h => h) (Or.inr ⟨by rfl, rfl⟩) (by assumption) ?_
              try simp only [Act.put, List.setIfInBounds_toArray, List.set_cons_zero, List.set_cons_succ]
              refine wpAnyH_take (i := 17) (v := undef) (by simp only [List.getElem?_toArray, List.getElem?_cons_succ, List.getElem?_cons_zero]; exact rfl) (by kernel_rfl) (by kernel_rfl) (by kernel_rfl) (by exact fun _ _ _ h => h) (Or.inr ⟨by rfl, rfl⟩) (by assumption) ?_
              try simp only [Act.put, List.setIfInBounds_toArray, List.set_cons_zero, List.set_cons_succ]
              refine wpAnyH_take (i := 18) (v := undef) (by simp only [List.getElem?_toArray, List.getElem?_cons_succ, List.getElem?_cons_zero]; exact rfl) (by kernel_rfl) (by kernel_rfl) (by kernel_rfl) (by exact fun _ _ _ h => h) (Or.inr ⟨by rfl, rfl⟩) (by assumption) ?_
              try simp only [Act.put, List.setIfInBounds_toArray, List.set_cons_zero, List.set_cons_succ]
              refine wpAnyH_take (i := 19) (v := ?_) (by simp only [List.getElem?_toArray, List.getElem?_cons_succ, List.getElem?_cons_zero]; exact rfl) (by kernel_rfl) (by kernel_rfl) (by kernel_rfl) (by exact fun _ _ _ h => h) (Or.inl ⟨by rfl, ?_⟩) (by assumption) ?_
              rotate_left
              · intro w hSw; (try dsimp only at hSw); go_simp <;> with_reducible rfl
              try simp only [Act.put, List.setIfInBounds_toArray, List.set_cons_zero, List.set_cons_succ]
              refine wpAnyH_done (by kernel_rfl) ?_ _
              rotate_left
              clear hHeld
              have HF : Hid (r = false) := HNO.out fun h => (by have h1 : q.rate ≤ t.rate := (h.rate HI0.out).2.2 t (List.mem_of_getElem? HT.out); rw [HTR.out] at h1; have := HCND.out; omega)
              go_wp2
              go_ret
              exact ⟨by rw [HF.out]; rfl, below_next HB0.out HD.out.drew⟩
            · have c1 : decide (tr < q.rate) = false := decide_eq_false h1
              by_cases h2 : tf < q.fixed
              · have c2 : decide (tf < q.fixed) = true := decide_eq_true h2
                have HCND := Lib.hid h2
                clear h1 h2
                go_upto_region 26 with fail
                clear x4
                refine wp_region_held_drew (S := (fun U : World => U.cell? ⟨b2, 3, none⟩ = some (.int .i64 q.rate) ∧ U.cell? ⟨b2, 4, none⟩ = some (.int .i64 q.fixed) ∧ U.cell? ⟨b1, 4, none⟩ = some (.slice (some adB) x.k x.d) ∧ U.cell? ⟨(adB.add (j * 7)).block, (adB.add (j * 7)).off + 6, none⟩ = some (.int .i64 tr) ∧ U.cell? ⟨(adB.add (j * 7)).block, (adB.add (j * 7)).off + 5, none⟩ = some (.int .i64 tf))) (by kernel_rfl) (by (try dsimp only); exact HIR.out _ HD.out.drew) (fun hHeld => ?_)
                refine wpAnyH_take (i := 0) (v := ?_) (by simp only [List.getElem?_toArray, List.getElem?_cons_zero]; exact rfl) (by kernel_rfl) (by kernel_rfl) (by kernel_rfl) (by exact fun _ _ _ h => h) (Or.inl ⟨by rfl, ?_⟩) (by assumption) ?_
                rotate_left
                · intro w hSw; (try dsimp only at hSw); go_simp <;> with_reducible rfl
                try simp only [Act.put, List.setIfInBounds_toArray, List.set_cons_zero, List.set_cons_succ]
                refine wpAnyH_take (i := 1) (v := ?_) (by simp only [List.getElem?_toArray, List.getElem?_cons_succ, List.getElem?_cons_zero]; exact rfl) (by kernel_rfl) (by kernel_rfl) (by kernel_rfl) (by exact fun _ _ _ h => h) (Or.inl ⟨by rfl, ?_⟩) (by assumption) ?_
                rotate_left
                · intro w hSw; (try dsimp only at hSw); go_simp <;> with_reducible rfl
                try simp only [Act.put, List.setIfInBounds_toArray, List.set_cons_zero, List.set_cons_succ]
                refine wpAnyH_take (i := 2) (v := ?_) (by simp only [List.getElem?_toArray, List.getElem?_cons_succ, List.getElem?_cons_zero]; exact rfl) (by kernel_rfl) (by kernel_rfl) (by kernel_rfl) (by exact fun _ _ _ h => h) (Or.inl ⟨by rfl, ?_⟩) (by assumption) ?_
                rotate_left
                · intro w hSw; (try dsimp only at hSw); go_simp <;> with_reducible rfl
                try simp only [Act.put, List.setIfInBounds_toArray, List.set_cons_zero, List.set_cons_succ]
                refine wpAnyH_take (i := 3) (v := ?_) (by simp only [List.getElem?_toArray, List.getElem?_cons_succ, List.getElem?_cons_zero]; exact rfl) (by kernel_rfl) (by kernel_rfl) (by kernel_rfl) (by exact fun _ _ _ h => h) (Or.inl ⟨by rfl, ?_⟩) (by assumption) ?_
                rotate_left
                · intro w hSw; (try dsimp only at hSw); go_simp <;> with_reducible rfl
                try simp only [Act.put, List.setIfInBounds_toArray, List.set_cons_zero, List.set_cons_succ]
                refine wpAnyH_take (i := 4) (v := ?_) (by simp only [List.getElem?_toArray, List.getElem?_cons_succ, List.getElem?_cons_zero]; exact rfl) (by kernel_rfl) (by kernel_rfl) (by kernel_rfl) (by exact fun _ _ _ h => h) (Or.inl ⟨by rfl, ?_⟩) (by assumption) ?_
                rotate_left
                · intro w hSw; (try dsimp only at hSw); go_simp <;> with_reducible rfl
                try simp only [Act.put, List.setIfInBounds_toArray, List.set_cons_zero, List.set_cons_succ]
                refine wpAnyH_take (i := 5) (v := ?_) (by simp only [List.getElem?_toArray, List.getElem?_cons_succ, List.getElem?_cons_zero]; exact rfl) (by kernel_rfl) (by kernel_rfl) (by kernel_rfl) (by exact fun _ _ _ h => h) (Or.inl ⟨by rfl, ?_⟩) (by assumption) ?_
                rotate_left
                · intro w hSw; (try dsimp only at hSw); go_simp <;> with_reducible rfl
                try simp only [Act.put, List.setIfInBounds_toArray, List.set_cons_zero, List.set_cons_succ]
                refine wpAnyH_take (i := 6) (v := ?_) (by simp only [List.getElem?_toArray, List.getElem?_cons_succ, List.getElem?_cons_zero]; exact rfl) (by kernel_rfl) (by kernel_rfl) (by kernel_rfl) (by exact fun _ _ _ h => h) (Or.inl ⟨by rfl, ?_⟩) (by assumption) ?_
                rotate_left
                · intro w hSw; (try dsimp only at hSw); go_simp <;> with_reducible rfl
                try simp only [Act.put, List.setIfInBounds_toArray, List.set_cons_zero, List.set_cons_succ]
                refine wpAnyH_take (i := 7) (v := ?_) (by simp only [List.getElem?_toArray, List.getElem?_cons_succ, List.getElem?_cons_zero]; exact rfl) (by kernel_rfl) (by kernel_rfl) (by kernel_rfl) (by exact fun _ _ _ h => h) (Or.inl ⟨by rfl, ?_⟩) (by assumption) ?_
                rotate_left
                · intro w hSw; (try dsimp only at hSw); go_simp <;> with_reducible rfl
                try simp only [Act.put, List.setIfInBounds_toArray, List.set_cons_zero, List.set_cons_succ]
                refine wpAnyH_take (i := 8) (v := ?_) (by simp only [List.getElem?_toArray, List.getElem?_cons_succ, List.getElem?_cons_zero]; exact rfl) (by kernel_rfl) (by kernel_rfl) (by kernel_rfl) (by exact fun _ _ _ h => h) (Or.inl ⟨by rfl, ?_⟩) (by assumption) ?_
                rotate_left
                · intro w hSw; (try dsimp only at hSw); go_simp <;> with_reducible rfl
                try simp only [Act.put, List.setIfInBounds_toArray, List.set_cons_zero, List.set_cons_succ]
                refine wpAnyH_take (i := 9) (v := ?_) (by simp only [List.getElem?_toArray, List.getElem?_cons_succ, List.getElem?_cons_zero]; exact rfl) (by kernel_rfl) (by kernel_rfl) (by kernel_rfl) (by exact fun _ _ _ h => h) (Or.inl ⟨by rfl, ?_⟩) (by assumption) ?_
                rotate_left
                · intro w hSw; (try dsimp only at hSw); go_simp <;> with_reducible rfl
                try simp only [Act.put, List.setIfInBounds_toArray, List.set_cons_zero, List.set_cons_succ]
                refine wpAnyH_take (i := 10) (v := ?_) (by simp only [List.getElem?_toArray, List.getElem?_cons_succ, List.getElem?_cons_zero]; exact rfl) (by kernel_rfl) (by kernel_rfl) (by kernel_rfl) (by exact fun _ _ _ h => h) (Or.inl ⟨by rfl, ?_⟩) (by assumption) ?_
                rotate_left
                · intro w hSw; (try dsimp only at hSw); go_simp <;> with_reducible rfl
                try simp only [Act.put, List.setIfInBounds_toArray, List.set_cons_zero, List.set_cons_succ]
                refine wpAnyH_take (i := 11) (v := ?_) (by simp only [List.getElem?_toArray, List.getElem?_cons_succ, List.getElem?_cons_zero]; exact rfl) (by kernel_rfl) (by kernel_rfl) (by kernel_rfl) (by exact fun _ _ _ h => h) (Or.inl ⟨by rfl, ?_⟩) (by assumption) ?_
                rotate_left
                · intro w hSw; (try dsimp only at hSw); go_simp <;> with_reducible rfl
                try simp only [Act.put, List.setIfInBounds_toArray, List.set_cons_zero, List.set_cons_succ]
                refine wpAnyH_take (i := 12) (v := ?_) (by simp only [List.getElem?_toArray, List.getElem?_cons_succ, List.getElem?_cons_zero]; exact rfl) (by kernel_rfl) (by kernel_rfl) (by kernel_rfl) (by exact fun _ _ _ h => h) (Or.inl ⟨by rfl, ?_⟩) (by assumption) ?_
                rotate_left
                · intro w hSw; (try dsimp only at hSw); go_simp <;> with_reducible rfl
                try simp only [Act.put, List.setIfInBounds_toArray, List.set_cons_zero, List.set_cons_succ]
                refine wpAnyH_take (i := 13) (v := ?_) (by simp only [List.getElem?_toArray, List.getElem?_cons_succ, List.getElem?_cons_zero]; exact rfl) (by kernel_rfl) (by kernel_rfl) (by kernel_rfl) (by exact fun _ _ _ h => h) (Or.inl ⟨by rfl, ?_⟩) (by assumption) ?_
                rotate_left
                · intro w hSw; (try dsimp only at hSw); go_simp <;> with_reducible rfl
                try simp only [Act.put, List.setIfInBounds_toArray, List.set_cons_zero, List.set_cons_succ]
                refine wpAnyH_take (i := 14) (v := ?_) (by simp only [List.getElem?_toArray, List.getElem?_cons_succ, List.getElem?_cons_zero]; exact rfl) (by kernel_rfl) (by kernel_rfl) (by kernel_rfl) (by exact fun _ _ _ h => h) (Or.inl ⟨by rfl, ?_⟩) (by assumption) ?_
                rotate_left
                · intro w hSw; (try dsimp only at hSw); go_simp <;> with_reducible rfl
                try simp only [Act.put, List.setIfInBounds_toArray, List.set_cons_zero, List.set_cons_succ]
                refine wpAnyH_take (i := 15) (v := ?_) (by simp only [List.getElem?_toArray, List.getElem?_cons_succ, List.getElem?_cons_zero]; exact rfl) (by kernel_rfl) (by kernel_rfl) (by kernel_rfl) (by exact fun _ _ _ h => h) (Or.inl ⟨by rfl, ?_⟩) (by assumption) ?_
                rotate_left
                · intro w hSw; (try dsimp only at hSw); go_simp <;> with_reducible rfl
                try simp only [Act.put, List.setIfInBounds_toArray, List.set_cons_zero, List.set_cons_succ]
                refine wpAnyH_take (i := 16) (v := ?_) (by simp only [List.getElem?_toArray, List.getElem?_cons_succ, List.getElem?_cons_zero]; exact rfl) (by kernel_rfl) (by kernel_rfl) (by kernel_rfl) (by exact fun _ _ _ h => h) (Or.inl ⟨by rfl, ?_⟩) (by assumption) ?_
                rotate_left
                · intro w hSw; (try dsimp only at hSw); go_simp <;> with_reducible rfl
                try simp only [Act.put, List.setIfInBounds_toArray, List.set_cons_zero, List.set_cons_succ]
                refine wpAnyH_take (i := 17) (v := ?_) (by simp only [List.getElem?_toArray, List.getElem?_cons_succ, List.getElem?_cons_zero]; exact rfl) (by kernel_rfl) (by kernel_rfl) (by kernel_rfl) (by exact fun _ _ _ h => h) (Or.inl ⟨by rfl, ?_⟩) (by assumption) ?_
                rotate_left
                · intro w hSw; (try dsimp only at hSw); go_simp <;> with_reducible rfl
                try simp only [Act.put, List.setIfInBounds_toArray, List.set_cons_zero, List.set_cons_succ]
                refine wpAnyH_take (i := 18) (v := ?_) (by simp only [List.getElem?_toArray, List.getElem?_cons_succ, List.getElem?_cons_zero]; exact rfl) (by kernel_rfl) (by kernel_rfl) (by kernel_rfl) (by exact fun _ _ _ h => h) (Or.inl ⟨by rfl, ?_⟩) (by assumption) ?_
                rotate_left
                · intro w hSw; (try dsimp only at hSw); go_simp <;> with_reducible rfl
                try simp only [Act.put, List.setIfInBounds_toArray, List.set_cons_zero, List.set_cons_succ]
                refine wpAnyH_take (i := 19) (v := ?_) (by simp only [List.getElem?_toArray, List.getElem?_cons_succ, List.getElem?_cons_zero]; exact rfl) (by kernel_rfl) (by kernel_rfl) (by kernel_rfl) (by exact fun _ _ _ h => h) (Or.inl ⟨by rfl, ?_⟩) (by assumption) ?_
                rotate_left
                · intro w hSw; (try dsimp only at hSw); go_simp <;> with_reducible rfl
                try simp only [Act.put, List.setIfInBounds_toArray, List.set_cons_zero, List.set_cons_succ]
                refine wpAnyH_done (by kernel_rfl) ?_ _
                rotate_left
                clear hHeld
                have HF : Hid (r = false) := HNO.out fun h => (by have h1 : q.fixed ≤ t.fixed := (h.fixed HI0.out).2.2 t (List.mem_of_getElem? HT.out); rw [HTF.out] at h1; have := HCND.out; omega)
                go_wp2
                go_ret
                exact ⟨by rw [HF.out]; rfl, below_next HB0.out HD.out.drew⟩
              · have c2 : decide (tf < q.fixed) = false := decide_eq_false h2
                have HPT2 : Hid (∀ (i : Nat) (t : Ld.T), i < j + 1 → x.ts[i]? = some t → q.rate ≤ t.rate ∧ q.fixed ≤ t.fixed) := fun i t' hi ht' => by
                  rcases Nat.lt_or_ge i j with h | h
                  · exact HPT.out i t' h ht'
                  · obtain rfl : i = j := by omega
                    obtain rfl := Option.some.inj (HT.out.symm.trans ht')
                    rw [HTR.out, HTF.out]
                    omega
                clear h1 h2
                go_upto_region 26 with fail
                clear x4
                refine wp_region_held_drew (S := (fun U : World => U.cell? ⟨b2, 3, none⟩ = some (.int .i64 q.rate) ∧ U.cell? ⟨b2, 4, none⟩ = some (.int .i64 q.fixed) ∧ U.cell? ⟨b1, 4, none⟩ = some (.slice (some adB) x.k x.d) ∧ U.cell? ⟨(adB.add (j * 7)).block, (adB.add (j * 7)).off + 6, none⟩ = some (.int .i64 tr) ∧ U.cell? ⟨(adB.add (j * 7)).block, (adB.add (j * 7)).off + 5, none⟩ = some (.int .i64 tf))) (by kernel_rfl) (by (try dsimp only); exact HIR.out _ HD.out.drew) (fun hHeld => ?_)
                refine wpAnyH_take (i := 0) (v := ?_) (by simp only [List.getElem?_toArray, List.getElem?_cons_zero]; exact rfl) (by kernel_rfl) (by kernel_rfl) (by kernel_rfl) (by exact fun _ _ _ h => h) (Or.inl ⟨by rfl, ?_⟩) (by assumption) ?_
                rotate_left
                · intro w hSw; (try dsimp only at hSw); go_simp <;> with_reducible rfl
                try simp only [Act.put, List.setIfInBounds_toArray, List.set_cons_zero, List.set_cons_succ]
                refine wpAnyH_take (i := 1) (v := ?_) (by simp only [List.getElem?_toArray, List.getElem?_cons_succ, List.getElem?_cons_zero]; exact rfl) (by kernel_rfl) (by kernel_rfl) (by kernel_rfl) (by exact fun _ _ _ h => h) (Or.inl ⟨by rfl, ?_⟩) (by assumption) ?_
                rotate_left
                · intro w hSw; (try dsimp only at hSw); go_simp <;> with_reducible rfl
                try simp only [Act.put, List.setIfInBounds_toArray, List.set_cons_zero, List.set_cons_succ]
                refine wpAnyH_take (i := 2) (v := ?_) (by simp only [List.getElem?_toArray, List.getElem?_cons_succ, List.getElem?_cons_zero]; exact rfl) (by kernel_rfl) (by kernel_rfl) (by kernel_rfl) (by exact fun _ _ _ h => h) (Or.inl ⟨by rfl, ?_⟩) (by assumption) ?_
                rotate_left
                · intro w hSw; (try dsimp only at hSw); go_simp <;> with_reducible rfl
                try simp only [Act.put, List.setIfInBounds_toArray, List.set_cons_zero, List.set_cons_succ]
                refine wpAnyH_take (i := 3) (v := ?_) (by simp only [List.getElem?_toArray, List.getElem?_cons_succ, List.getElem?_cons_zero]; exact rfl) (by kernel_rfl) (by kernel_rfl) (by kernel_rfl) (by exact fun _ _ _ h => h) (Or.inl ⟨by rfl, ?_⟩) (by assumption) ?_
                rotate_left
                · intro w hSw; (try dsimp only at hSw); go_simp <;> with_reducible rfl
                try simp only [Act.put, List.setIfInBounds_toArray, List.set_cons_zero, List.set_cons_succ]
                refine wpAnyH_take (i := 4) (v := ?_) (by simp only [List.getElem?_toArray, List.getElem?_cons_succ, List.getElem?_cons_zero]; exact rfl) (by kernel_rfl) (by kernel_rfl) (by kernel_rfl) (by exact fun _ _ _ h => h) (Or.inl ⟨by rfl, ?_⟩) (by assumption) ?_
                rotate_left
                · intro w hSw; (try dsimp only at hSw); go_simp <;> with_reducible rfl
                try simp only [Act.put, List.setIfInBounds_toArray, List.set_cons_zero, List.set_cons_succ]
                refine wpAnyH_take (i := 5) (v := ?_) (by simp only [List.getElem?_toArray, List.getElem?_cons_succ, List.getElem?_cons_zero]; exact rfl) (by kernel_rfl) (by kernel_rfl) (by kernel_rfl) (by exact fun _ _ _ h => h) (Or.inl ⟨by rfl, ?_⟩) (by assumption) ?_
                rotate_left
                · intro w hSw; (try dsimp only at hSw); go_simp <;> with_reducible rfl
                try simp only [Act.put, List.setIfInBounds_toArray, List.set_cons_zero, List.set_cons_succ]
                refine wpAnyH_take (i := 6) (v := ?_) (by simp only [List.getElem?_toArray, List.getElem?_cons_succ, List.getElem?_cons_zero]; exact rfl) (by kernel_rfl) (by kernel_rfl) (by kernel_rfl) (by exact fun _ _ _ h => h) (Or.inl ⟨by rfl, ?_⟩) (by assumption) ?_
                rotate_left
                · intro w hSw; (try dsimp only at hSw); go_simp <;> with_reducible rfl
                try simp only [Act.put, List.setIfInBounds_toArray, List.set_cons_zero, List.set_cons_succ]
                refine wpAnyH_take (i := 7) (v := ?_) (by simp only [List.getElem?_toArray, List.getElem?_cons_succ, List.getElem?_cons_zero]; exact rfl) (by kernel_rfl) (by kernel_rfl) (by kernel_rfl) (by exact fun _ _ _ h => h) (Or.inl ⟨by rfl, ?_⟩) (by assumption) ?_
                rotate_left
                · intro w hSw; (try dsimp only at hSw); go_simp <;> with_reducible rfl
                try simp only [Act.put, List.setIfInBounds_toArray, List.set_cons_zero, List.set_cons_succ]
                refine wpAnyH_take (i := 8) (v := ?_) (by simp only [List.getElem?_toArray, List.getElem?_cons_succ, List.getElem?_cons_zero]; exact rfl) (by kernel_rfl) (by kernel_rfl) (by kernel_rfl) (by exact fun _ _ _ h => h) (Or.inl ⟨by rfl, ?_⟩) (by assumption) ?_
                rotate_left
                · intro w hSw; (try dsimp only at hSw); go_simp <;> with_reducible rfl
                try simp only [Act.put, List.setIfInBounds_toArray, List.set_cons_zero, List.set_cons_succ]
                refine wpAnyH_take (i := 9) (v := ?_) (by simp only [List.getElem?_toArray, List.getElem?_cons_succ, List.getElem?_cons_zero]; exact rfl) (by kernel_rfl) (by kernel_rfl) (by kernel_rfl) (by exact fun _ _ _ h => h) (Or.inl ⟨by rfl, ?_⟩) (by assumption) ?_
                rotate_left
                · intro w hSw; (try dsimp only at hSw); go_simp <;> with_reducible rfl
                try simp only [Act.put, List.setIfInBounds_toArray, List.set_cons_zero, List.set_cons_succ]
                refine wpAnyH_take (i := 10) (v := ?_) (by simp only [List.getElem?_toArray, List.getElem?_cons_succ, List.getElem?_cons_zero]; exact rfl) (by kernel_rfl) (by kernel_rfl) (by kernel_rfl) (by exact fun _ _ _ h => h) (Or.inl ⟨by rfl, ?_⟩) (by assumption) ?_
                rotate_left
                · intro w hSw; (try dsimp only at hSw); go_simp <;> with_reducible rfl
                try simp only [Act.put, List.setIfInBounds_toArray, List.set_cons_zero, List.set_cons_succ]
                refine wpAnyH_take (i := 11) (v := ?_) (by simp only [List.getElem?_toArray, List.getElem?_cons_succ, List.getElem?_cons_zero]; exact rfl) (by kernel_rfl) (by kernel_rfl) (by kernel_rfl) (by exact fun _ _ _ h => h) (Or.inl ⟨by rfl, ?_⟩) (by assumption) ?_
                rotate_left
                · intro w hSw; (try dsimp only at hSw); go_simp <;> with_reducible rfl
                try simp only [Act.put, List.setIfInBounds_toArray, List.set_cons_zero, List.set_cons_succ]
                refine wpAnyH_take (i := 12) (v := ?_) (by simp only [List.getElem?_toArray, List.getElem?_cons_succ, List.getElem?_cons_zero]; exact rfl) (by kernel_rfl) (by kernel_rfl) (by kernel_rfl) (by exact fun _ _ _ h => h) (Or.inl ⟨by rfl, ?_⟩) (by assumption) ?_
                rotate_left
                · intro w hSw; (try dsimp only at hSw); go_simp <;> with_reducible rfl
                try simp only [Act.put, List.setIfInBounds_toArray, List.set_cons_zero, List.set_cons_succ]
                refine wpAnyH_take (i := 13) (v := ?_) (by simp only [List.getElem?_toArray, List.getElem?_cons_succ, List.getElem?_cons_zero]; exact rfl) (by kernel_rfl) (by kernel_rfl) (by kernel_rfl) (by exact fun _ _ _ h => h) (Or.inl ⟨by rfl, ?_⟩) (by assumption) ?_
                rotate_left
                · intro w hSw; (try dsimp only at hSw); go_simp <;> with_reducible rfl
                try simp only [Act.put, List.setIfInBounds_toArray, List.set_cons_zero, List.set_cons_succ]
                refine wpAnyH_take (i := 14) (v := ?_) (by simp only [List.getElem?_toArray, List.getElem?_cons_succ, List.getElem?_cons_zero]; exact rfl) (by kernel_rfl) (by kernel_rfl) (by kernel_rfl) (by exact fun _ _ _ h => h) (Or.inl ⟨by rfl, ?_⟩) (by assumption) ?_
                rotate_left
                · intro w hSw; (try dsimp only at hSw); go_simp <;> with_reducible rfl
                try simp only [Act.put, List.setIfInBounds_toArray, List.set_cons_zero, List.set_cons_succ]
                refine wpAnyH_take (i := 15) (v := ?_) (by simp only [List.getElem?_toArray, List.getElem?_cons_succ, List.getElem?_cons_zero]; exact rfl) (by kernel_rfl) (by kernel_rfl) (by kernel_rfl) (by exact fun _ _ _ h => h) (Or.inl ⟨by rfl, ?_⟩) (by assumption) ?_
                rotate_left
                · intro w hSw; (try dsimp only at hSw); go_simp <;> with_reducible rfl
                try simp only [Act.put, List.setIfInBounds_toArray, List.set_cons_zero, List.set_cons_succ]
                refine wpAnyH_take (i := 16) (v := ?_) (by simp only [List.getElem?_toArray, List.getElem?_cons_succ, List.getElem?_cons_zero]; exact rfl) (by kernel_rfl) (by kernel_rfl) (by kernel_rfl) (by exact fun _ _ _ h => h) (Or.inl ⟨by rfl, ?_⟩) (by assumption) ?_
                rotate_left
                · intro w hSw; (try dsimp only at hSw); go_simp <;> with_reducible rfl
                try simp only [Act.put, List.setIfInBounds_toArray, List.set_cons_zero, List.set_cons_succ]
                refine wpAnyH_take (i := 17) (v := ?_) (by simp only [List.getElem?_toArray, List.getElem?_cons_succ, List.getElem?_cons_zero]; exact rfl) (by kernel_rfl) (by kernel_rfl) (by kernel_rfl) (by exact fun _ _ _ h => h) (Or.inl ⟨by rfl, ?_⟩) (by assumption) ?_
                rotate_left
                · intro w hSw; (try dsimp only at hSw); go_simp <;> with_reducible rfl
                try simp only [Act.put, List.setIfInBounds_toArray, List.set_cons_zero, List.set_cons_succ]
                refine wpAnyH_take (i := 18) (v := ?_) (by simp only [List.getElem?_toArray, List.getElem?_cons_succ, List.getElem?_cons_zero]; exact rfl) (by kernel_rfl) (by kernel_rfl) (by kernel_rfl) (by exact fun _ _ _ h => h) (Or.inl ⟨by rfl, ?_⟩) (by assumption) ?_
                rotate_left
                · intro w hSw; (try dsimp only at hSw); go_simp <;> with_reducible rfl
                try simp only [Act.put, List.setIfInBounds_toArray, List.set_cons_zero, List.set_cons_succ]
                refine wpAnyH_take (i := 19) (v := ?_) (by simp only [List.getElem?_toArray, List.getElem?_cons_succ, List.getElem?_cons_zero]; exact rfl) (by kernel_rfl) (by kernel_rfl) (by kernel_rfl) (by exact fun _ _ _ h => h) (Or.inl ⟨by rfl, ?_⟩) (by assumption) ?_
                rotate_left
                · intro w hSw; (try dsimp only at hSw); go_simp <;> with_reducible rfl
                try simp only [Act.put, List.setIfInBounds_toArray, List.set_cons_zero, List.set_cons_succ]
                refine wpAnyH_done (by kernel_rfl) ?_ _
                rotate_left
                clear hHeld
                go_wp2_with fail
                go_roundg gj
                case measure => omega
                case rel => exact ⟨j + 1, _, rfl, by omega, by first | rfl | go_num, HPT2, HD.out.drew⟩
          · have HPT2 : Hid (∀ t ∈ x.ts, q.rate ≤ t.rate ∧ q.fixed ≤ t.fixed) := fun t ht => by
              obtain ⟨i, hi⟩ := List.getElem?_of_mem ht
              exact HPT.out i t (by have h1 := (List.getElem?_eq_some_iff.1 hi).1; rw [HTL.out] at h1; omega) hi
            have HRB : Hid (q.rate ≤ 1000 ∧ q.fixed ≤ 1000000) := by
              by_cases he : x.ts = []
              · have h1 := HBF.out.2.2 he
                unfold Hid
                omega
              · obtain ⟨t, ht⟩ := List.exists_mem_of_ne_nil _ he
                have h1 := HPT2.out t ht
                have h2 := HTT.out t ht
                unfold Hid
                omega
            obtain ⟨q2, hq2⟩ : ∃ z, q.rate * al = z := ⟨_, rfl⟩
            obtain ⟨q3, hq3⟩ : ∃ z, q.fixed + q2 = z := ⟨_, rfl⟩
            have hm := (small_mul HBF.out.1 HRB.out.1 HAB2.out.1 (Int.le_trans HAB2.out.2 (by omega))).2
            rw [hq2] at hm
            have wb : IntKind.i64.wrap (q.rate * al) = q2 := by rw [hq2]; exact IntWalk.i64_in _ (by omega)
            have wc : IntKind.i64.wrap (q.fixed + q2) = q3 := by rw [hq3]; exact IntWalk.i64_in _ (by have h1 := HRB.out.2; have h2 := HBF.out.2.1; omega)
            have HQ3 : Hid (q3 = q.fixed + q.rate * (q.back + q.inn.sum)) := by unfold Hid; rw [← hq3, ← hq2, HAL2.out]
            have x4 := (HX.out.w.below HD.out).c4
            have y3 := qrc3 (HX.out.c.below HD.out)
            have y4 := qrc4 (HX.out.c.below HD.out)
            have y5 := qrc5 (HX.out.c.below HD.out)
            clear hq2 hq3 hm hjg
            by_cases he : q.bound = q3
            · have e1 : (q.bound == q3) = true := beq_iff_eq.2 he
              have HEQ : Hid (q.bound = q3) := he
              clear he
              have HF : Hid (r = true) := HYES.out ⟨HEW.out, HAI.out.1, HAI.out.2, HLN.out, fun e => absurd e HI0.out, fun i o z ho hz => by
                rw [HL.out] at ho
                have h1 := (HPA.out i o z ho hz).1
                exact ⟨h1.1, h1.2.1, fun j p hj hp => h1.2.2 j p hj (by rw [HL.out] at hp; exact hp)⟩, fun _ => ⟨HBK.out.1.1, fun o ho => HBK.out.2 o (by rw [HL.out] at ho; exact ho)⟩,
                fun _ => ⟨HBF.out.1, fun e => (HBF.out.2.2 e).1, fun t ht => (HPT2.out t ht).1⟩, fun _ => ⟨HBF.out.2.1, fun e => (HBF.out.2.2 e).2, fun t ht => (HPT2.out t ht).2⟩, fun _ => HEQ.out.trans HQ3.out⟩
              go_wp2
              go_ret
              exact ⟨by rw [HF.out]; rfl, below_next HB0.out HD.out⟩
            · have e1 : (q.bound == q3) = false := beq_eq_false_iff_ne.2 he
              have HNQ : Hid (¬ q.bound = q3) := he
              clear he
              have HF : Hid (r = false) := HNO.out fun h => HNQ.out ((h.bound HI0.out).trans HQ3.out.symm)
              go_wp2
              go_ret
              exact ⟨by rw [HF.out]; rfl, below_next HB0.out HD.out⟩
end Go.Proofs.Ytbacakblboodeaa
