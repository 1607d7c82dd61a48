/- Contracts of package bound: Make. -/
import Derived.Test.YtbacakblboodeaaBndF0
import Derived.Deep.RegionLaw
import Derived.Deep.DeepCutAuto
import Derived.Deep.CutBlock
namespace Go.Proofs.Ytbacakblboodeaa
open Go.RowKit
set_option linter.unusedVariables false
set_option maxRecDepth 100000

set_option maxHeartbeats 8000000 in
theorem make_b (x : Wd) (A : Option Addr) (n c : Nat) (ids : List Int) (w : World) (r : Bo.C × Int) (hr : Bo.makeS x.N x.D x.T x.os x.ts ids = r) (hx : WAt w x) (hcap : x.k ≤ x.d) (hn : ids.length = n) (hn2 : n ≤ 900) (hi : IntsAt w A ids) :
    Calls Try.prog 9 #[.agg #[.int .i64 x.N, .slice x.dA x.dm x.dc, .slice x.tA x.tm x.tc, .slice x.A x.m x.c, .slice x.B x.k x.d], .slice A n c] w (MakePost w r) := by
  have HX : Hid (MB ((w.alloc (.cells #[.int .i64 x.N, .slice x.dA x.dm x.dc, .slice x.tA x.tm x.tc, .slice x.A x.m x.c, .slice x.B x.k x.d] 28)).alloc (.cells #[.slice none 0 0, .slice none 0 0, .int .i64 0, .int .i64 0, .int .i64 0, .int .i64 0] 31)) w.heap.size (w.heap.size + 1) x) := ⟨(WX.new hx).below (below_alloc _ _), box_at _ _ _ _ (by simp)⟩
  have HB0 : Hid (Below w.heap.size w ((w.alloc (.cells #[.int .i64 x.N, .slice x.dA x.dm x.dc, .slice x.tA x.tm x.tc, .slice x.A x.m x.c, .slice x.B x.k x.d] 28)).alloc (.cells #[.slice none 0 0, .slice none 0 0, .int .i64 0, .int .i64 0, .int .i64 0, .int .i64 0] 31))) := below_more (below_alloc _ _) _
  have HBS : Hid (w.heap.size + 1 < ((w.alloc (.cells #[.int .i64 x.N, .slice x.dA x.dm x.dc, .slice x.tA x.tm x.tc, .slice x.A x.m x.c, .slice x.B x.k x.d] 28)).alloc (.cells #[.slice none 0 0, .slice none 0 0, .int .i64 0, .int .i64 0, .int .i64 0, .int .i64 0] 31)).heap.size) := by unfold Hid; simp
  have HI := Lib.hid (hi.below HB0.out)
  have HR := Lib.hid hr
  have HN := Lib.hid hn
  have HKM := Lib.hid hx.k2
  clear hx hi hr hn
  obtain ⟨ew, hew⟩ : ∃ e, Rt.worldE x.N x.D x.T x.os x.ts = e := ⟨_, rfl⟩
  have HEW := Lib.hid hew
  have HC := Lib.hid (rworld_b x ((w.alloc (.cells #[.int .i64 x.N, .slice x.dA x.dm x.dc, .slice x.tA x.tm x.tc, .slice x.A x.m x.c, .slice x.B x.k x.d] 28)).alloc (.cells #[.slice none 0 0, .slice none 0 0, .int .i64 0, .int .i64 0, .int .i64 0, .int .i64 0] 31)) ew hew HX.out.w.at_)
  clear hew
  go_enter Try.func9, Try.ntmps9
  have x0 := HX.out.w.c0
  have x1 := HX.out.w.c1
  have x2 := HX.out.w.c2
  have x3 := HX.out.w.c3
  have x4 := HX.out.w.c4
  go_wp2_with fail
  clear x0 x1 x2 x3 x4
  generalize ((w.alloc (.cells #[.int .i64 x.N, .slice x.dA x.dm x.dc, .slice x.tA x.tm x.tc, .slice x.A x.m x.c, .slice x.B x.k x.d] 28)).alloc (.cells #[.slice none 0 0, .slice none 0 0, .int .i64 0, .int .i64 0, .int .i64 0, .int .i64 0] 31)) = V at *
  have HB2 : Hid (w.heap.size ≤ w.heap.size + 1) := Nat.le_succ _
  generalize w.heap.size + 1 = b2 at *
  obtain ⟨b1, hb1⟩ : ∃ b, w.heap.size = b := ⟨_, rfl⟩
  rw [hb1] at HX ⊢
  have HBE := Lib.hid hb1
  clear hb1
  with_reducible refine HC.out.mono ?_
  rintro e V1 ⟨rfl, hV1⟩
  have HX1 := Lib.hid (HX.out.below hV1.out)
  have HB1 := Lib.hid (below_next HB0.out hV1.out)
  have HI1 := Lib.hid (HI.out.below hV1.out)
  have HBS1 : Hid (b2 < V1.heap.size) := Nat.lt_of_lt_of_le HBS.out hV1.out.size
  clear HC HX HB0 HI hV1 HBS
  by_cases h0 : ew = 0
  · subst h0
    have HCN := Lib.hid (names_b x A n c ids V1 HX1.out.w.at_ HN.out hn2 HI1.out)
    have x0 := HX1.out.w.c0
    have x1 := HX1.out.w.c1
    have x2 := HX1.out.w.c2
    have x3 := HX1.out.w.c3
    have x4 := HX1.out.w.c4
    go_wp2_with fail
    with_reducible refine HCN.out.mono ?_
    rintro e V2 ⟨B, m, c2, ec, rfl, h2, hres⟩
    have HX2 := Lib.hid (HX1.out.below h2.out)
    have HB2' := Lib.hid (below_next HB1.out h2.out)
    have HBS2 : Hid (b2 < V2.heap.size) := Nat.lt_of_lt_of_le HBS1.out h2.out.size
    clear x0 x1 x2 x3 x4 HCN HX1 HB1 HI1 HBS1 h2
    by_cases hec : ec = 0
    · subst hec
      have HOK : Hid (Pl.dupB (Pl.srt ids) = false ∧ Rt.allIn x.os (Pl.srt ids) = true ∧ m = n ∧ m ≤ c2 ∧ OrdersAt V2 B (Rt.ordersOf x.os (Pl.srt ids))) := by
        rcases hres.out with ⟨h, _⟩ | ⟨h, _⟩ | ⟨_, h⟩
        · cases h
        · cases h
        · exact h
      clear hres
      obtain rfl : m = n := HOK.out.2.2.1
      by_cases hm0 : m = 0
      · subst hm0
        have HE : Hid (r = (Bo.none, 0)) := by
          unfold Hid
          rw [← HR.out]
          obtain rfl : ids = [] := List.length_eq_zero_iff.1 HN.out
          exact Bo.make_nil HEW.out
        have z0 := HX2.out.q.cell 0 _ rfl
        have z1 := HX2.out.q.cell 1 _ rfl
        have z2 := HX2.out.q.cell 2 _ rfl
        have z3 := HX2.out.q.cell 3 _ rfl
        have z4 := HX2.out.q.cell 4 _ rfl
        have z5 := HX2.out.q.cell 5 _ rfl
        have f0 := HX2.out.q.fz 0
        have f1 := HX2.out.q.fz 1
        have f2 := HX2.out.q.fz 2
        have f3 := HX2.out.q.fz 3
        have f4 := HX2.out.q.fz 4
        have f5 := HX2.out.q.fz 5
        go_wp2
        exact bodyPost_ret (results_cert (v := .int .i64 0) rfl _ (cert_set HX2.out.q _ _ _ _ _ _) rfl rfl rfl) rfl (MakePost.zero HE.out (below_set6 HB2'.out _ HB2.out _ _ _ _ _ _))
      · have d0 : ((m : Int) == 0) = false := beq_eq_false_iff_ne.2 (by omega)
        have hrok := Rt.ok_of HEW.out
        have hno : ∀ o ∈ Rt.ordersOf x.os (Pl.srt ids), Ar.hasB x.N o.node = true := fun o ho => Rt.OOk.has (hrok.oo o (Bo.ords_mem HOK.out.2.1 ho).1)
        have h12 : m ≤ 12 := by
          have h1 := Bo.nodup_len HOK.out.1 HOK.out.2.1
          rw [HN.out] at h1
          exact Nat.le_trans h1 hrok.ol
        have HE : Hid (r = (Bo.certOf x.N x.D (Rt.ordersOf x.os (Pl.srt ids)) x.ts, 0)) := by
          unfold Hid
          rw [← HR.out]
          exact Bo.make_ok HEW.out HOK.out.1 HOK.out.2.1 fun e => hm0 (by rw [← HN.out, e]; rfl)
        have HLL : Hid ((Rt.ordersOf x.os (Pl.srt ids)).length = m) := by unfold Hid; rw [Rt.ordersOf_len, Pl.srt_len]; exact HN.out
        have HOS := Lib.hid HOK.out.2.2.2.2
        have hmc := HOK.out.2.2.2.1
        have HNO := Lib.hid hno
        have HAR := Lib.hid (Rt.ok_area HEW.out)
        have HRB := Lib.hid (Bo.rate_bd hrok.tt)
        have HFB := Lib.hid (Bo.fixed_bd hrok.tt)
        have HBB := Lib.hid (Bo.back_bd hrok.ar hno)
        have HNB : Hid (∀ z ∈ Bo.nears x.N x.D (Rt.ordersOf x.os (Pl.srt ids)), 0 ≤ z ∧ z ≤ 1000000) := fun z hz => by
          obtain ⟨k, hk⟩ := List.getElem?_of_mem hz
          have hl := (List.getElem?_eq_some_iff.1 hk).1
          rw [Bo.nears_len] at hl
          rw [Bo.nears_at hl] at hk
          obtain rfl := Option.some.inj hk
          exact Bo.near_bd hrok.ar hno (List.getElem?_eq_getElem hl)
        have hok0 := hrok.ar.has0
        clear HOK hrok hno HR
        generalize Rt.ordersOf x.os (Pl.srt ids) = L at *
        have hkm := HKM.out
        have HBKL : Hid (Bo.lst (L.map fun o => (Ar.legS x.N x.D x.T o.node 0).1) = Bo.backS x.N x.D L) := by
          unfold Hid Bo.backS
          congr 1
          refine List.map_congr_left fun o ho => ?_
          rw [leg_is HAR.out (HNO.out o ho) hok0]
        clear hok0
        obtain ⟨bk, hbk⟩ : ∃ z, Bo.backS x.N x.D L = z := ⟨_, rfl⟩
        obtain ⟨rt, hrt⟩ : ∃ z, Bo.rateS x.ts = z := ⟨_, rfl⟩
        obtain ⟨fx, hfx⟩ : ∃ z, Bo.fixedS x.ts = z := ⟨_, rfl⟩
        rw [hbk] at HBKL HBB
        rw [hrt] at HRB
        rw [hfx] at HFB
        have HBK := Lib.hid hbk
        have HRT := Lib.hid hrt
        have HFX := Lib.hid hfx
        clear hbk hrt hfx
        have hb1V : b1 < V2.heap.size := HX2.out.w.box.lt
        have HCB : Hid (∀ U, Hid (Below V2.heap.size V2 U) → Calls Try.prog 21 #[.slice B m c2, .func (.func 22) #[] #[.pointer (some ⟨b1, 0, none⟩)]] U fun e w' => e = .returned (.int .i64 bk) ∧ w'.cell? ⟨b1, 4, none⟩ = some (.slice x.B x.k x.d) ∧ Hid (Below V2.heap.size V2 w')) := fun U hU =>
          (least_o (fun o => (Ar.legS x.N x.D x.T o.node 0).1) ⟨b1, 0, none⟩ B m c2 L U bk HBKL.out HLL.out (by omega) hmc (HOS.out.below hU.out)
            (fun o ho W hW => back1_b x b1 _ _ _ _ _ _ _ _ _ W (HX2.out.w.below (below_next hU.out hW)) rfl)).mono fun e w' ⟨e1, h⟩ => ⟨e1, (HX2.out.w.below (below_next hU.out h.out)).c4, below_next hU.out h.out⟩
        have HCB2 : Hid (∀ U g, Hid (Below V2.heap.size V2 U) → Hid (Box U g #[.slice none 0 0, .slice none 0 0, .int .i64 0, .int .i64 0, .int .i64 0, .int .i64 0] 31 ∧ V2.heap.size ≤ g) → Calls Try.prog 21 #[.slice B m c2, .func (.func 22) #[] #[.pointer (some ⟨b1, 0, none⟩)]] U fun e w' => e = .returned (.int .i64 bk) ∧ w'.cell? ⟨b1, 4, none⟩ = some (.slice x.B x.k x.d) ∧ w'.cell? ⟨g, 0, none⟩ = some (.slice none 0 0) ∧ w'.frozen? ⟨g, 0, none⟩ = false ∧ w'.cell? ⟨g, 1, none⟩ = some (.slice none 0 0) ∧ w'.frozen? ⟨g, 1, none⟩ = false ∧ w'.cell? ⟨g, 2, none⟩ = some (.int .i64 0) ∧ w'.frozen? ⟨g, 2, none⟩ = false ∧ w'.cell? ⟨g, 3, none⟩ = some (.int .i64 0) ∧ w'.frozen? ⟨g, 3, none⟩ = false ∧ w'.cell? ⟨g, 4, none⟩ = some (.int .i64 0) ∧ w'.frozen? ⟨g, 4, none⟩ = false ∧ w'.cell? ⟨g, 5, none⟩ = some (.int .i64 0) ∧ w'.frozen? ⟨g, 5, none⟩ = false ∧ Hid (Below V2.heap.size V2 w') ∧ Hid (Box w' g #[.slice none 0 0, .slice none 0 0, .int .i64 0, .int .i64 0, .int .i64 0, .int .i64 0] 31 ∧ V2.heap.size ≤ g)) := fun U g hU hG =>
          (least_o (fun o => (Ar.legS x.N x.D x.T o.node 0).1) ⟨b1, 0, none⟩ B m c2 L U bk HBKL.out HLL.out (by omega) hmc (HOS.out.below hU.out)
            (fun o ho W hW => back1_b x b1 _ _ _ _ _ _ _ _ _ W (HX2.out.w.below (below_next hU.out hW)) rfl)).mono fun e w' ⟨e1, h⟩ => by
            have hbx := hG.out.1.below h.out
            exact ⟨e1, (HX2.out.w.below (below_next hU.out h.out)).c4, hbx.cell 0 _ rfl, hbx.fz 0, hbx.cell 1 _ rfl, hbx.fz 1, hbx.cell 2 _ rfl, hbx.fz 2, hbx.cell 3 _ rfl, hbx.fz 3, hbx.cell 4 _ rfl, hbx.fz 4, hbx.cell 5 _ rfl, hbx.fz 5, below_next hU.out h.out, hbx, hG.out.2⟩
        have HCR : Hid (∀ U, Hid (Below V2.heap.size V2 U) → Calls Try.prog 24 #[.slice x.B x.k x.d, .func (.func 25) #[] #[]] U fun e w' => e = .returned (.int .i64 rt) ∧ w'.cell? ⟨b1, 4, none⟩ = some (.slice x.B x.k x.d) ∧ Hid (Below V2.heap.size V2 w')) := fun U hU =>
          (least_rate x.B x.k x.d x.ts U rt HRT.out (HX2.out.w.below hU.out).at_.kl hkm hcap (HX2.out.w.below hU.out).at_.ts).mono fun e w' ⟨e1, h⟩ => ⟨e1, (HX2.out.w.below (below_next hU.out h.out)).c4, below_next hU.out h.out⟩
        have HCR2 : Hid (∀ U g, Hid (Below V2.heap.size V2 U) → Hid (Box U g #[.slice none 0 0, .slice none 0 0, .int .i64 0, .int .i64 0, .int .i64 0, .int .i64 0] 31 ∧ V2.heap.size ≤ g) → Calls Try.prog 24 #[.slice x.B x.k x.d, .func (.func 25) #[] #[]] U fun e w' => e = .returned (.int .i64 rt) ∧ w'.cell? ⟨b1, 4, none⟩ = some (.slice x.B x.k x.d) ∧ w'.cell? ⟨g, 0, none⟩ = some (.slice none 0 0) ∧ w'.frozen? ⟨g, 0, none⟩ = false ∧ w'.cell? ⟨g, 1, none⟩ = some (.slice none 0 0) ∧ w'.frozen? ⟨g, 1, none⟩ = false ∧ w'.cell? ⟨g, 2, none⟩ = some (.int .i64 0) ∧ w'.frozen? ⟨g, 2, none⟩ = false ∧ w'.cell? ⟨g, 3, none⟩ = some (.int .i64 0) ∧ w'.frozen? ⟨g, 3, none⟩ = false ∧ w'.cell? ⟨g, 4, none⟩ = some (.int .i64 0) ∧ w'.frozen? ⟨g, 4, none⟩ = false ∧ w'.cell? ⟨g, 5, none⟩ = some (.int .i64 0) ∧ w'.frozen? ⟨g, 5, none⟩ = false ∧ Hid (Below V2.heap.size V2 w') ∧ Hid (Box w' g #[.slice none 0 0, .slice none 0 0, .int .i64 0, .int .i64 0, .int .i64 0, .int .i64 0] 31 ∧ V2.heap.size ≤ g)) := fun U g hU hG =>
          (least_rate x.B x.k x.d x.ts U rt HRT.out (HX2.out.w.below hU.out).at_.kl hkm hcap (HX2.out.w.below hU.out).at_.ts).mono fun e w' ⟨e1, h⟩ => by
            have hbx := hG.out.1.below h.out
            exact ⟨e1, (HX2.out.w.below (below_next hU.out h.out)).c4, hbx.cell 0 _ rfl, hbx.fz 0, hbx.cell 1 _ rfl, hbx.fz 1, hbx.cell 2 _ rfl, hbx.fz 2, hbx.cell 3 _ rfl, hbx.fz 3, hbx.cell 4 _ rfl, hbx.fz 4, hbx.cell 5 _ rfl, hbx.fz 5, below_next hU.out h.out, hbx, hG.out.2⟩
        have HCF : Hid (∀ U, Hid (Below V2.heap.size V2 U) → Calls Try.prog 24 #[.slice x.B x.k x.d, .func (.func 26) #[] #[]] U fun e w' => e = .returned (.int .i64 fx) ∧ w'.cell? ⟨b1, 4, none⟩ = some (.slice x.B x.k x.d) ∧ Hid (Below V2.heap.size V2 w')) := fun U hU =>
          (least_fixed x.B x.k x.d x.ts U fx HFX.out (HX2.out.w.below hU.out).at_.kl hkm hcap (HX2.out.w.below hU.out).at_.ts).mono fun e w' ⟨e1, h⟩ => ⟨e1, (HX2.out.w.below (below_next hU.out h.out)).c4, below_next hU.out h.out⟩
        have HCF2 : Hid (∀ U g, Hid (Below V2.heap.size V2 U) → Hid (Box U g #[.slice none 0 0, .slice none 0 0, .int .i64 0, .int .i64 0, .int .i64 0, .int .i64 0] 31 ∧ V2.heap.size ≤ g) → Calls Try.prog 24 #[.slice x.B x.k x.d, .func (.func 26) #[] #[]] U fun e w' => e = .returned (.int .i64 fx) ∧ w'.cell? ⟨b1, 4, none⟩ = some (.slice x.B x.k x.d) ∧ w'.cell? ⟨g, 0, none⟩ = some (.slice none 0 0) ∧ w'.frozen? ⟨g, 0, none⟩ = false ∧ w'.cell? ⟨g, 1, none⟩ = some (.slice none 0 0) ∧ w'.frozen? ⟨g, 1, none⟩ = false ∧ w'.cell? ⟨g, 2, none⟩ = some (.int .i64 0) ∧ w'.frozen? ⟨g, 2, none⟩ = false ∧ w'.cell? ⟨g, 3, none⟩ = some (.int .i64 0) ∧ w'.frozen? ⟨g, 3, none⟩ = false ∧ w'.cell? ⟨g, 4, none⟩ = some (.int .i64 0) ∧ w'.frozen? ⟨g, 4, none⟩ = false ∧ w'.cell? ⟨g, 5, none⟩ = some (.int .i64 0) ∧ w'.frozen? ⟨g, 5, none⟩ = false ∧ Hid (Below V2.heap.size V2 w') ∧ Hid (Box w' g #[.slice none 0 0, .slice none 0 0, .int .i64 0, .int .i64 0, .int .i64 0, .int .i64 0] 31 ∧ V2.heap.size ≤ g)) := fun U g hU hG =>
          (least_fixed x.B x.k x.d x.ts U fx HFX.out (HX2.out.w.below hU.out).at_.kl hkm hcap (HX2.out.w.below hU.out).at_.ts).mono fun e w' ⟨e1, h⟩ => by
            have hbx := hG.out.1.below h.out
            exact ⟨e1, (HX2.out.w.below (below_next hU.out h.out)).c4, hbx.cell 0 _ rfl, hbx.fz 0, hbx.cell 1 _ rfl, hbx.fz 1, hbx.cell 2 _ rfl, hbx.fz 2, hbx.cell 3 _ rfl, hbx.fz 3, hbx.cell 4 _ rfl, hbx.fz 4, hbx.cell 5 _ rfl, hbx.fz 5, below_next hU.out h.out, hbx, hG.out.2⟩
        have HDR : Hid (Below V2.heap.size V2 V2.drew) := (Below.refl V2.heap.size V2).drew
        have HAL : Hid (Below V2.heap.size V2 (V2.alloc (.cells #[.slice none 0 0, .slice none 0 0, .int .i64 0, .int .i64 0, .int .i64 0, .int .i64 0] 31)).drew) := (below_alloc V2 (.cells #[.slice none 0 0, .slice none 0 0, .int .i64 0, .int .i64 0, .int .i64 0, .int .i64 0] 31)).drew
        have HALB : Hid (Box (V2.alloc (.cells #[.slice none 0 0, .slice none 0 0, .int .i64 0, .int .i64 0, .int .i64 0, .int .i64 0] 31)).drew V2.heap.size #[.slice none 0 0, .slice none 0 0, .int .i64 0, .int .i64 0, .int .i64 0, .int .i64 0] 31 ∧ V2.heap.size ≤ V2.heap.size) := ⟨Box.new V2 _ _, Nat.le_refl _⟩
        have HAM : Hid (∀ U o, Hid (Below V2.heap.size V2 U) → Hid (Below V2.heap.size V2 (U.alloc o))) := fun U o hU => below_more hU.out _
        have HYS : Hid (∀ U, Hid (Below V2.heap.size V2 U) → (U.cell? ⟨b1, 4, none⟩ = some (.slice x.B x.k x.d) ∧ Hid (Below V2.heap.size V2 U))) := fun U hU => ⟨(HX2.out.w.below hU.out).c4, hU⟩
        have HYT : Hid (∀ U g v0 v1 v2 v3 v4 v5, Hid (Below V2.heap.size V2 U) → Hid (Box U g #[.slice none 0 0, .slice none 0 0, .int .i64 0, .int .i64 0, .int .i64 0, .int .i64 0] 31 ∧ V2.heap.size ≤ g) → (((((((U.setCell ⟨g, 0, none⟩ v0).setCell ⟨g, 1, none⟩ v1).setCell ⟨g, 2, none⟩ v2).setCell ⟨g, 3, none⟩ v3).setCell ⟨g, 4, none⟩ v4).setCell ⟨g, 5, none⟩ v5).cell? ⟨b1, 4, none⟩ = some (.slice x.B x.k x.d) ∧ Hid (Below V2.heap.size V2 ((((((U.setCell ⟨g, 0, none⟩ v0).setCell ⟨g, 1, none⟩ v1).setCell ⟨g, 2, none⟩ v2).setCell ⟨g, 3, none⟩ v3).setCell ⟨g, 4, none⟩ v4).setCell ⟨g, 5, none⟩ v5)))) := fun U g v0 v1 v2 v3 v4 v5 hU hG => HYS.out _ (below_set6 hU.out g hG.out.2 _ _ _ _ _ _)
        have HAMB : Hid (∀ U, Hid (Below V2.heap.size V2 U) → Hid (Box (U.alloc (.cells #[.slice none 0 0, .slice none 0 0, .int .i64 0, .int .i64 0, .int .i64 0, .int .i64 0] 31)) U.heap.size #[.slice none 0 0, .slice none 0 0, .int .i64 0, .int .i64 0, .int .i64 0, .int .i64 0] 31 ∧ V2.heap.size ≤ U.heap.size)) := fun U hU => ⟨Box.new U _ _, hU.out.size⟩
        have x4 := HX2.out.w.c4
        go_upto_region 9 with fail
        go_cut [9] (fun s9 W => ∃ (g : Nat) (W1 : World), W1 = W ∧ s9 = .pointer (some ⟨g, 0, none⟩) ∧ Hid (CS V2 g none 0 0 [] none 0 0 [] bk rt fx 0 W1))
        case first => as_aux_lemma =>
          refine wp_region_held_drew (S := fun U : World => U.cell? ⟨b1, 4, none⟩ = some (.slice x.B x.k x.d) ∧ Hid (Below V2.heap.size V2 U)) (by kernel_rfl) (by (try dsimp only); exact HYS.out _ HDR) (fun hHeld => ?_)
          refine wpAnyH_take (i := 0) (v := ?_) (by simp only [List.getElem?_toArray, List.getElem?_cons_zero]; exact rfl) (by kernel_rfl) (by kernel_rfl) (by kernel_rfl) (by exact fun _ _ _ h => h) (Or.inl ⟨by rfl, ?_⟩) (by assumption) ?_
          rotate_left
          · intro w hSw; (try dsimp only at hSw); go_simp <;> with_reducible rfl
          try simp only [Act.put, List.setIfInBounds_toArray, List.set_cons_zero, List.set_cons_succ]
          refine wpAnyH_take (i := 1) (v := ?_) (by simp only [List.getElem?_toArray, List.getElem?_cons_succ, List.getElem?_cons_zero]; exact rfl) (by kernel_rfl) (by kernel_rfl) (by kernel_rfl) (by exact fun _ _ _ h => h) (Or.inl ⟨by rfl, ?_⟩) (by assumption) ?_
          rotate_left
          · intro w hSw; (try dsimp only at hSw); go_simp <;> with_reducible rfl
          try simp only [Act.put, List.setIfInBounds_toArray, List.set_cons_zero, List.set_cons_succ]
          refine wpAnyH_take (i := 3) (v := ?_) (by simp only [List.getElem?_toArray, List.getElem?_cons_succ, List.getElem?_cons_zero]; exact rfl) (by kernel_rfl) (by kernel_rfl) (by kernel_rfl) (by exact fun _ _ _ h => h) (Or.inl ⟨by rfl, ?_⟩) (by assumption) ?_
          rotate_left
          · intro w hSw; (try dsimp only at hSw); go_simp <;> with_reducible rfl
          try simp only [Act.put, List.setIfInBounds_toArray, List.set_cons_zero, List.set_cons_succ]
          refine wpAnyH_take (i := 4) (v := ?_) (by simp only [List.getElem?_toArray, List.getElem?_cons_succ, List.getElem?_cons_zero]; exact rfl) (by kernel_rfl) (by kernel_rfl) (by kernel_rfl) (by exact fun _ _ _ h => h) (Or.inl ⟨by rfl, ?_⟩) (by assumption) ?_
          rotate_left
          · intro w hSw; (try dsimp only at hSw); go_simp <;> with_reducible rfl
          try simp only [Act.put, List.setIfInBounds_toArray, List.set_cons_zero, List.set_cons_succ]
          refine wpAnyH_take (i := 6) (v := ?_) (by simp only [List.getElem?_toArray, List.getElem?_cons_succ, List.getElem?_cons_zero]; exact rfl) (by kernel_rfl) (by kernel_rfl) (by kernel_rfl) (by exact fun _ _ _ h => h) (Or.inl ⟨by rfl, ?_⟩) (by assumption) ?_
          rotate_left
          · intro w hSw; (try dsimp only at hSw); go_simp <;> with_reducible rfl
          try simp only [Act.put, List.setIfInBounds_toArray, List.set_cons_zero, List.set_cons_succ]
          refine wpAnyH_take (i := 7) (v := ?_) (by simp only [List.getElem?_toArray, List.getElem?_cons_succ, List.getElem?_cons_zero]; exact rfl) (by kernel_rfl) (by kernel_rfl) (by kernel_rfl) (by exact fun _ _ _ h => h) (Or.inl ⟨by rfl, ?_⟩) (by assumption) ?_
          rotate_left
          · intro w hSw; (try dsimp only at hSw); go_simp <;> with_reducible rfl
          try simp only [Act.put, List.setIfInBounds_toArray, List.set_cons_zero, List.set_cons_succ]
          refine wpAnyH_ready (rs := [2, 10]) (by kernel_rfl) (by simp) ?_
          refine AllReadyH.cons (by simp only [List.getElem?_toArray, List.getElem?_cons_succ, List.getElem?_cons_zero]; exact rfl) (fun K hK => ?_) (AllReadyH.cons (by simp only [List.getElem?_toArray, List.getElem?_cons_succ, List.getElem?_cons_zero]; exact rfl) (fun K hK => ?_) AllReadyH.nil)
          · go_simp
            go_at_call 21
            with_reducible refine (HCB.out _ HDR).mono ?_
            rintro e w1 ⟨rfl, k4, kU⟩
            go_wp2_with fail
            clear hHeld
            refine hK.out _ _ ?_ (fun hHeld => ?_)
            · (try dsimp only); (first | exact HYS.out _ (by assumption) | assumption)
            clear hK K
            try simp only [Act.put, List.setIfInBounds_toArray, List.set_cons_zero, List.set_cons_succ]
            refine wpAnyH_ready (rs := [5, 10]) (by kernel_rfl) (by simp) ?_
            refine AllReadyH.cons (by simp only [List.getElem?_toArray, List.getElem?_cons_succ, List.getElem?_cons_zero]; exact rfl) (fun K hK => ?_) (AllReadyH.cons (by simp only [List.getElem?_toArray, List.getElem?_cons_succ, List.getElem?_cons_zero]; exact rfl) (fun K hK => ?_) AllReadyH.nil)
            · go_simp
              go_at_call 24
              with_reducible refine (HCR.out _ kU).mono ?_
              rintro e w2 ⟨rfl, k4, kU⟩
              go_wp2_with fail
              clear hHeld
              refine hK.out _ _ ?_ (fun hHeld => ?_)
              · (try dsimp only); (first | exact HYS.out _ (by assumption) | assumption)
              clear hK K
              try simp only [Act.put, List.setIfInBounds_toArray, List.set_cons_zero, List.set_cons_succ]
              refine wpAnyH_ready (rs := [8, 10]) (by kernel_rfl) (by simp) ?_
              refine AllReadyH.cons (by simp only [List.getElem?_toArray, List.getElem?_cons_succ, List.getElem?_cons_zero]; exact rfl) (fun K hK => ?_) (AllReadyH.cons (by simp only [List.getElem?_toArray, List.getElem?_cons_succ, List.getElem?_cons_zero]; exact rfl) (fun K hK => ?_) AllReadyH.nil)
              · go_simp
                go_at_call 24
                with_reducible refine (HCF.out _ kU).mono ?_
                rintro e w3 ⟨rfl, k4, kU⟩
                go_wp2_with fail
                clear hHeld
                refine hK.out _ _ ?_ (fun hHeld => ?_)
                · (try dsimp only); (first | exact HYS.out _ (by assumption) | assumption)
                clear hK K
                try simp only [Act.put, List.setIfInBounds_toArray, List.set_cons_zero, List.set_cons_succ]
                refine wpAnyH_take (i := 9) (v := ?_) (by simp only [List.getElem?_toArray, List.getElem?_cons_succ, List.getElem?_cons_zero]; exact rfl) (by kernel_rfl) (by kernel_rfl) (by kernel_rfl) (by exact fun _ _ _ h => h) (Or.inl ⟨by rfl, ?_⟩) (by assumption) ?_
                rotate_left
                · intro w hSw; (try dsimp only at hSw); go_simp <;> with_reducible rfl
                try simp only [Act.put, List.setIfInBounds_toArray, List.set_cons_zero, List.set_cons_succ]
                refine wpAnyH_ready (rs := [10]) (by kernel_rfl) (by simp) ?_
                refine AllReadyH.cons (by simp only [List.getElem?_toArray, List.getElem?_cons_succ, List.getElem?_cons_zero]; exact rfl) (fun K hK => ?_) AllReadyH.nil
                have HU2 := HAM.out w3 (.cells #[.slice none 0 0, .slice none 0 0, .int .i64 0, .int .i64 0, .int .i64 0, .int .i64 0] 31) kU
                have HG2 := HAMB.out w3 kU
                go_simp
                clear hHeld
                refine hK.out _ _ ?_ (fun hHeld => ?_)
                · (try dsimp only); (first | exact HYS.out _ HU2 | assumption)
                clear hK K
                try simp only [Act.put, List.setIfInBounds_toArray, List.set_cons_zero, List.set_cons_succ]
                generalize w3.alloc (.cells #[.slice none 0 0, .slice none 0 0, .int .i64 0, .int .i64 0, .int .i64 0, .int .i64 0] 31) = WA at HU2 HG2 hHeld ⊢
                have s0 : WA.cell? ⟨w3.heap.size, 0, none⟩ = some (.slice none 0 0) := HG2.out.1.cell 0 _ rfl
                have t0 : WA.frozen? ⟨w3.heap.size, 0, none⟩ = false := HG2.out.1.fz 0
                have s1 : WA.cell? ⟨w3.heap.size, 1, none⟩ = some (.slice none 0 0) := HG2.out.1.cell 1 _ rfl
                have t1 : WA.frozen? ⟨w3.heap.size, 1, none⟩ = false := HG2.out.1.fz 1
                have s2 : WA.cell? ⟨w3.heap.size, 2, none⟩ = some (.int .i64 0) := HG2.out.1.cell 2 _ rfl
                have t2 : WA.frozen? ⟨w3.heap.size, 2, none⟩ = false := HG2.out.1.fz 2
                have s3 : WA.cell? ⟨w3.heap.size, 3, none⟩ = some (.int .i64 0) := HG2.out.1.cell 3 _ rfl
                have t3 : WA.frozen? ⟨w3.heap.size, 3, none⟩ = false := HG2.out.1.fz 3
                have s4 : WA.cell? ⟨w3.heap.size, 4, none⟩ = some (.int .i64 0) := HG2.out.1.cell 4 _ rfl
                have t4 : WA.frozen? ⟨w3.heap.size, 4, none⟩ = false := HG2.out.1.fz 4
                have s5 : WA.cell? ⟨w3.heap.size, 5, none⟩ = some (.int .i64 0) := HG2.out.1.cell 5 _ rfl
                have t5 : WA.frozen? ⟨w3.heap.size, 5, none⟩ = false := HG2.out.1.fz 5
                refine wpAnyH_ready (rs := [11]) (by kernel_rfl) (by simp) ?_
                refine AllReadyH.cons (by simp only [List.getElem?_toArray, List.getElem?_cons_succ, List.getElem?_cons_zero]; exact rfl) (fun K hK => ?_) AllReadyH.nil
                go_simp
                clear hHeld
                refine hK.out _ _ ?_ (fun hHeld => ?_)
                · (try dsimp only); (first | exact HYT.out _ _ _ _ _ _ _ _ HU2 HG2 | assumption)
                clear hK K
                try simp only [Act.put, List.setIfInBounds_toArray, List.set_cons_zero, List.set_cons_succ]
                refine wpAnyH_done (by kernel_rfl) ?_ _
                rotate_left
                go_wp2
                go_meet
                case rel => exact ⟨_, _, rfl, rfl, CS.start HU2.out HG2.out.2 HG2.out.1⟩
              · have HU2 := HAM.out w2 (.cells #[.slice none 0 0, .slice none 0 0, .int .i64 0, .int .i64 0, .int .i64 0, .int .i64 0] 31) kU
                have HG2 := HAMB.out w2 kU
                go_simp
                clear hHeld
                refine hK.out _ _ ?_ (fun hHeld => ?_)
                · (try dsimp only); (first | exact HYS.out _ HU2 | assumption)
                clear hK K
                try simp only [Act.put, List.setIfInBounds_toArray, List.set_cons_zero, List.set_cons_succ]
                generalize w2.alloc (.cells #[.slice none 0 0, .slice none 0 0, .int .i64 0, .int .i64 0, .int .i64 0, .int .i64 0] 31) = WA at HU2 HG2 hHeld ⊢
                refine wpAnyH_ready (rs := [8]) (by kernel_rfl) (by simp) ?_
                refine AllReadyH.cons (by simp only [List.getElem?_toArray, List.getElem?_cons_succ, List.getElem?_cons_zero]; exact rfl) (fun K hK => ?_) AllReadyH.nil
                go_simp
                go_at_call 24
                with_reducible refine (HCF2.out _ _ HU2 HG2).mono ?_
                rintro e w3 ⟨rfl, k4, k0, f0, k1, f1, k2, f2, k3, f3, q4, f4, k5, f5, kU, kB⟩
                go_wp2_with fail
                clear hHeld
                refine hK.out _ _ ?_ (fun hHeld => ?_)
                · (try dsimp only); (first | exact HYS.out _ (by assumption) | assumption)
                clear hK K
                try simp only [Act.put, List.setIfInBounds_toArray, List.set_cons_zero, List.set_cons_succ]
                refine wpAnyH_take (i := 9) (v := ?_) (by simp only [List.getElem?_toArray, List.getElem?_cons_succ, List.getElem?_cons_zero]; exact rfl) (by kernel_rfl) (by kernel_rfl) (by kernel_rfl) (by exact fun _ _ _ h => h) (Or.inl ⟨by rfl, ?_⟩) (by assumption) ?_
                rotate_left
                · intro w hSw; (try dsimp only at hSw); go_simp <;> with_reducible rfl
                try simp only [Act.put, List.setIfInBounds_toArray, List.set_cons_zero, List.set_cons_succ]
                have s0 : w3.cell? ⟨w2.heap.size, 0, none⟩ = some (.slice none 0 0) := kB.out.1.cell 0 _ rfl
                have t0 : w3.frozen? ⟨w2.heap.size, 0, none⟩ = false := kB.out.1.fz 0
                have s1 : w3.cell? ⟨w2.heap.size, 1, none⟩ = some (.slice none 0 0) := kB.out.1.cell 1 _ rfl
                have t1 : w3.frozen? ⟨w2.heap.size, 1, none⟩ = false := kB.out.1.fz 1
                have s2 : w3.cell? ⟨w2.heap.size, 2, none⟩ = some (.int .i64 0) := kB.out.1.cell 2 _ rfl
                have t2 : w3.frozen? ⟨w2.heap.size, 2, none⟩ = false := kB.out.1.fz 2
                have s3 : w3.cell? ⟨w2.heap.size, 3, none⟩ = some (.int .i64 0) := kB.out.1.cell 3 _ rfl
                have t3 : w3.frozen? ⟨w2.heap.size, 3, none⟩ = false := kB.out.1.fz 3
                have s4 : w3.cell? ⟨w2.heap.size, 4, none⟩ = some (.int .i64 0) := kB.out.1.cell 4 _ rfl
                have t4 : w3.frozen? ⟨w2.heap.size, 4, none⟩ = false := kB.out.1.fz 4
                have s5 : w3.cell? ⟨w2.heap.size, 5, none⟩ = some (.int .i64 0) := kB.out.1.cell 5 _ rfl
                have t5 : w3.frozen? ⟨w2.heap.size, 5, none⟩ = false := kB.out.1.fz 5
                refine wpAnyH_ready (rs := [11]) (by kernel_rfl) (by simp) ?_
                refine AllReadyH.cons (by simp only [List.getElem?_toArray, List.getElem?_cons_succ, List.getElem?_cons_zero]; exact rfl) (fun K hK => ?_) AllReadyH.nil
                go_simp
                clear hHeld
                refine hK.out _ _ ?_ (fun hHeld => ?_)
                · (try dsimp only); (first | exact HYT.out _ _ _ _ _ _ _ _ kU kB | assumption)
                clear hK K
                try simp only [Act.put, List.setIfInBounds_toArray, List.set_cons_zero, List.set_cons_succ]
                refine wpAnyH_done (by kernel_rfl) ?_ _
                rotate_left
                go_wp2
                go_meet
                case rel => exact ⟨_, _, rfl, rfl, CS.start kU.out kB.out.2 kB.out.1⟩
            · have HU2 := HAM.out w1 (.cells #[.slice none 0 0, .slice none 0 0, .int .i64 0, .int .i64 0, .int .i64 0, .int .i64 0] 31) kU
              have HG2 := HAMB.out w1 kU
              go_simp
              clear hHeld
              refine hK.out _ _ ?_ (fun hHeld => ?_)
              · (try dsimp only); (first | exact HYS.out _ HU2 | assumption)
              clear hK K
              try simp only [Act.put, List.setIfInBounds_toArray, List.set_cons_zero, List.set_cons_succ]
              generalize w1.alloc (.cells #[.slice none 0 0, .slice none 0 0, .int .i64 0, .int .i64 0, .int .i64 0, .int .i64 0] 31) = WA at HU2 HG2 hHeld ⊢
              refine wpAnyH_ready (rs := [5]) (by kernel_rfl) (by simp) ?_
              refine AllReadyH.cons (by simp only [List.getElem?_toArray, List.getElem?_cons_succ, List.getElem?_cons_zero]; exact rfl) (fun K hK => ?_) AllReadyH.nil
              go_simp
              go_at_call 24
              with_reducible refine (HCR2.out _ _ HU2 HG2).mono ?_
              rintro e w2 ⟨rfl, k4, k0, f0, k1, f1, k2, f2, k3, f3, q4, f4, k5, f5, kU, kB⟩
              go_wp2_with fail
              clear hHeld
              refine hK.out _ _ ?_ (fun hHeld => ?_)
              · (try dsimp only); (first | exact HYS.out _ (by assumption) | assumption)
              clear hK K
              try simp only [Act.put, List.setIfInBounds_toArray, List.set_cons_zero, List.set_cons_succ]
              refine wpAnyH_ready (rs := [8]) (by kernel_rfl) (by simp) ?_
              refine AllReadyH.cons (by simp only [List.getElem?_toArray, List.getElem?_cons_succ, List.getElem?_cons_zero]; exact rfl) (fun K hK => ?_) AllReadyH.nil
              go_simp
              go_at_call 24
              with_reducible refine (HCF2.out _ _ kU kB).mono ?_
              rintro e w3 ⟨rfl, k4, k0, f0, k1, f1, k2, f2, k3, f3, q4, f4, k5, f5, kU, kB⟩
              go_wp2_with fail
              clear hHeld
              refine hK.out _ _ ?_ (fun hHeld => ?_)
              · (try dsimp only); (first | exact HYS.out _ (by assumption) | assumption)
              clear hK K
              try simp only [Act.put, List.setIfInBounds_toArray, List.set_cons_zero, List.set_cons_succ]
              refine wpAnyH_take (i := 9) (v := ?_) (by simp only [List.getElem?_toArray, List.getElem?_cons_succ, List.getElem?_cons_zero]; exact rfl) (by kernel_rfl) (by kernel_rfl) (by kernel_rfl) (by exact fun _ _ _ h => h) (Or.inl ⟨by rfl, ?_⟩) (by assumption) ?_
              rotate_left
              · intro w hSw; (try dsimp only at hSw); go_simp <;> with_reducible rfl
              try simp only [Act.put, List.setIfInBounds_toArray, List.set_cons_zero, List.set_cons_succ]
              have s0 : w3.cell? ⟨w1.heap.size, 0, none⟩ = some (.slice none 0 0) := kB.out.1.cell 0 _ rfl
              have t0 : w3.frozen? ⟨w1.heap.size, 0, none⟩ = false := kB.out.1.fz 0
              have s1 : w3.cell? ⟨w1.heap.size, 1, none⟩ = some (.slice none 0 0) := kB.out.1.cell 1 _ rfl
              have t1 : w3.frozen? ⟨w1.heap.size, 1, none⟩ = false := kB.out.1.fz 1
              have s2 : w3.cell? ⟨w1.heap.size, 2, none⟩ = some (.int .i64 0) := kB.out.1.cell 2 _ rfl
              have t2 : w3.frozen? ⟨w1.heap.size, 2, none⟩ = false := kB.out.1.fz 2
              have s3 : w3.cell? ⟨w1.heap.size, 3, none⟩ = some (.int .i64 0) := kB.out.1.cell 3 _ rfl
              have t3 : w3.frozen? ⟨w1.heap.size, 3, none⟩ = false := kB.out.1.fz 3
              have s4 : w3.cell? ⟨w1.heap.size, 4, none⟩ = some (.int .i64 0) := kB.out.1.cell 4 _ rfl
              have t4 : w3.frozen? ⟨w1.heap.size, 4, none⟩ = false := kB.out.1.fz 4
              have s5 : w3.cell? ⟨w1.heap.size, 5, none⟩ = some (.int .i64 0) := kB.out.1.cell 5 _ rfl
              have t5 : w3.frozen? ⟨w1.heap.size, 5, none⟩ = false := kB.out.1.fz 5
              refine wpAnyH_ready (rs := [11]) (by kernel_rfl) (by simp) ?_
              refine AllReadyH.cons (by simp only [List.getElem?_toArray, List.getElem?_cons_succ, List.getElem?_cons_zero]; exact rfl) (fun K hK => ?_) AllReadyH.nil
              go_simp
              clear hHeld
              refine hK.out _ _ ?_ (fun hHeld => ?_)
              · (try dsimp only); (first | exact HYT.out _ _ _ _ _ _ _ _ kU kB | assumption)
              clear hK K
              try simp only [Act.put, List.setIfInBounds_toArray, List.set_cons_zero, List.set_cons_succ]
              refine wpAnyH_done (by kernel_rfl) ?_ _
              rotate_left
              go_wp2
              go_meet
              case rel => exact ⟨_, _, rfl, rfl, CS.start kU.out kB.out.2 kB.out.1⟩
          · have HU2 := HAL
            have HG2 := HALB
            go_simp
            clear hHeld
            refine hK.out _ _ ?_ (fun hHeld => ?_)
            · (try dsimp only); (first | exact HYS.out _ HU2 | assumption)
            clear hK K
            try simp only [Act.put, List.setIfInBounds_toArray, List.set_cons_zero, List.set_cons_succ]
            generalize (V2.alloc (.cells #[.slice none 0 0, .slice none 0 0, .int .i64 0, .int .i64 0, .int .i64 0, .int .i64 0] 31)).drew = WA at HU2 HG2 hHeld ⊢
            refine wpAnyH_ready (rs := [2]) (by kernel_rfl) (by simp) ?_
            refine AllReadyH.cons (by simp only [List.getElem?_toArray, List.getElem?_cons_succ, List.getElem?_cons_zero]; exact rfl) (fun K hK => ?_) AllReadyH.nil
            go_simp
            go_at_call 21
            with_reducible refine (HCB2.out _ _ HU2 HG2).mono ?_
            rintro e w1 ⟨rfl, k4, k0, f0, k1, f1, k2, f2, k3, f3, q4, f4, k5, f5, kU, kB⟩
            go_wp2_with fail
            clear hHeld
            refine hK.out _ _ ?_ (fun hHeld => ?_)
            · (try dsimp only); (first | exact HYS.out _ (by assumption) | assumption)
            clear hK K
            try simp only [Act.put, List.setIfInBounds_toArray, List.set_cons_zero, List.set_cons_succ]
            refine wpAnyH_ready (rs := [5]) (by kernel_rfl) (by simp) ?_
            refine AllReadyH.cons (by simp only [List.getElem?_toArray, List.getElem?_cons_succ, List.getElem?_cons_zero]; exact rfl) (fun K hK => ?_) AllReadyH.nil
            go_simp
            go_at_call 24
            with_reducible refine (HCR2.out _ _ kU kB).mono ?_
            rintro e w2 ⟨rfl, k4, k0, f0, k1, f1, k2, f2, k3, f3, q4, f4, k5, f5, kU, kB⟩
            go_wp2_with fail
            clear hHeld
            refine hK.out _ _ ?_ (fun hHeld => ?_)
            · (try dsimp only); (first | exact HYS.out _ (by assumption) | assumption)
            clear hK K
            try simp only [Act.put, List.setIfInBounds_toArray, List.set_cons_zero, List.set_cons_succ]
            refine wpAnyH_ready (rs := [8]) (by kernel_rfl) (by simp) ?_
            refine AllReadyH.cons (by simp only [List.getElem?_toArray, List.getElem?_cons_succ, List.getElem?_cons_zero]; exact rfl) (fun K hK => ?_) AllReadyH.nil
            go_simp
            go_at_call 24
            with_reducible refine (HCF2.out _ _ kU kB).mono ?_
            rintro e w3 ⟨rfl, k4, k0, f0, k1, f1, k2, f2, k3, f3, q4, f4, k5, f5, kU, kB⟩
            go_wp2_with fail
            clear hHeld
            refine hK.out _ _ ?_ (fun hHeld => ?_)
            · (try dsimp only); (first | exact HYS.out _ (by assumption) | assumption)
            clear hK K
            try simp only [Act.put, List.setIfInBounds_toArray, List.set_cons_zero, List.set_cons_succ]
            refine wpAnyH_take (i := 9) (v := ?_) (by simp only [List.getElem?_toArray, List.getElem?_cons_succ, List.getElem?_cons_zero]; exact rfl) (by kernel_rfl) (by kernel_rfl) (by kernel_rfl) (by exact fun _ _ _ h => h) (Or.inl ⟨by rfl, ?_⟩) (by assumption) ?_
            rotate_left
            · intro w hSw; (try dsimp only at hSw); go_simp <;> with_reducible rfl
            try simp only [Act.put, List.setIfInBounds_toArray, List.set_cons_zero, List.set_cons_succ]
            have s0 : w3.cell? ⟨V2.heap.size, 0, none⟩ = some (.slice none 0 0) := kB.out.1.cell 0 _ rfl
            have t0 : w3.frozen? ⟨V2.heap.size, 0, none⟩ = false := kB.out.1.fz 0
            have s1 : w3.cell? ⟨V2.heap.size, 1, none⟩ = some (.slice none 0 0) := kB.out.1.cell 1 _ rfl
            have t1 : w3.frozen? ⟨V2.heap.size, 1, none⟩ = false := kB.out.1.fz 1
            have s2 : w3.cell? ⟨V2.heap.size, 2, none⟩ = some (.int .i64 0) := kB.out.1.cell 2 _ rfl
            have t2 : w3.frozen? ⟨V2.heap.size, 2, none⟩ = false := kB.out.1.fz 2
            have s3 : w3.cell? ⟨V2.heap.size, 3, none⟩ = some (.int .i64 0) := kB.out.1.cell 3 _ rfl
            have t3 : w3.frozen? ⟨V2.heap.size, 3, none⟩ = false := kB.out.1.fz 3
            have s4 : w3.cell? ⟨V2.heap.size, 4, none⟩ = some (.int .i64 0) := kB.out.1.cell 4 _ rfl
            have t4 : w3.frozen? ⟨V2.heap.size, 4, none⟩ = false := kB.out.1.fz 4
            have s5 : w3.cell? ⟨V2.heap.size, 5, none⟩ = some (.int .i64 0) := kB.out.1.cell 5 _ rfl
            have t5 : w3.frozen? ⟨V2.heap.size, 5, none⟩ = false := kB.out.1.fz 5
            refine wpAnyH_ready (rs := [11]) (by kernel_rfl) (by simp) ?_
            refine AllReadyH.cons (by simp only [List.getElem?_toArray, List.getElem?_cons_succ, List.getElem?_cons_zero]; exact rfl) (fun K hK => ?_) AllReadyH.nil
            go_simp
            clear hHeld
            refine hK.out _ _ ?_ (fun hHeld => ?_)
            · (try dsimp only); (first | exact HYT.out _ _ _ _ _ _ _ _ kU kB | assumption)
            clear hK K
            try simp only [Act.put, List.setIfInBounds_toArray, List.set_cons_zero, List.set_cons_succ]
            refine wpAnyH_done (by kernel_rfl) ?_ _
            rotate_left
            go_wp2
            go_meet
            case rel => exact ⟨_, _, rfl, rfl, CS.start kU.out kB.out.2 kB.out.1⟩
        case rest =>
          obtain ⟨g, W1, rfl, rfl, HCS⟩ := hcut
          clear HCB HCB2 HCR HCR2 HCF HCF2 HDR HAL HALB HAM HAMB HYS HYT x4 HBKL hcap hkm HKM
          go_wp2_with fail
          go_loopg [44] m (fun gk s44 W => ∃ (k : Nat) (W0 : World) (iA : Option Addr) (ic : Nat) (nA : Option Addr) (nc : Nat), W0 = W ∧ k + gk = m ∧ s44 = .int .i64 k ∧ Hid (CS V2 g iA k ic ((L.map Ld.O.id).take k) nA k nc ((Bo.nears x.N x.D L).take k) bk rt fx 0 W0))
          case atStart => exact ⟨0, _, none, 0, none, 0, rfl, by omega, rfl, HCS.out⟩
          case round =>
            clear HCS
            obtain ⟨k, W0, iA, ic, nA, nc, rfl, hkg, rfl, HK⟩ := hrel
            by_cases hlt : k < m
            · obtain ⟨gk, rfl⟩ : ∃ j, gk = j + 1 := ⟨gk - 1, by omega⟩
              obtain ⟨o, ho⟩ := mlist_at L k (by rw [HLL.out]; exact hlt)
              obtain ⟨ad, hA, hc⟩ := (HOS.out.below HK.out.bel).at_ ho
              obtain ⟨c0, c1, c2', c3, c4, c5, c6, c7⟩ := hc
              obtain ⟨a0, a1, a2, a3, a4, a5, a6, a7⟩ := o
              simp only at c0 c1 c2' c3 c4 c5 c6 c7
              have i2 : (k : Int) < (m : Int) := by omega
              have HBX := Lib.hid (Box.new W0 #[.int .i64 a0, .int .i64 a1, .int .i64 a2, .int .i64 a3, .int .i64 a4, .int .i64 a5, .int .i64 a6, .int .i64 a7] 57)
              have HK3 := Lib.hid (HK.out.below (below_alloc W0 (.cells #[.int .i64 a0, .int .i64 a1, .int .i64 a2, .int .i64 a3, .int .i64 a4, .int .i64 a5, .int .i64 a6, .int .i64 a7] 57)))
              have HO := Lib.hid ho
              have HA := Lib.hid hA
              clear ho hA
              obtain rfl := HA.out
              obtain ⟨z, hz⟩ : ∃ z, Bo.near x.N x.D L k = z := ⟨_, rfl⟩
              have HZ := Lib.hid hz
              clear hz
              have z0 : (W0.alloc (.cells #[.int .i64 a0, .int .i64 a1, .int .i64 a2, .int .i64 a3, .int .i64 a4, .int .i64 a5, .int .i64 a6, .int .i64 a7] 57)).cell? ⟨W0.heap.size, 0, none⟩ = some (.int .i64 a0) := HBX.out.cell 0 _ rfl
              have g0 : (W0.alloc (.cells #[.int .i64 a0, .int .i64 a1, .int .i64 a2, .int .i64 a3, .int .i64 a4, .int .i64 a5, .int .i64 a6, .int .i64 a7] 57)).cell? ⟨g, 0, none⟩ = some (.slice iA k ic) := HK3.out.box.cell 0 _ rfl
              have hap := CS.id HK3.out a0 (by rw [List.length_take, List.length_map]; omega) (k + 1) (by rw [List.length_append, List.length_take, List.length_map, HLL.out]; simp; omega)
              rw [← size_one W0] at hap
              have HAP := Lib.hid hap
              clear hap
              go_upto_region 14 with (at_builtin; refine wpList_append_any rfl (.tmp 50) (.tmp 53) 29 29 rfl _ _ rfl rfl _ HAP.out ?_; intro v2 w2 hap; obtain ⟨A2, d2, rfl, e1, e2, HP⟩ := hap)
              clear HAP HK3 HBX z0 g0 c0 c1 c2' c3 c4 c5 c6 c7 e1 e2 HK
              generalize w2.setCell ⟨g, 0, none⟩ (.slice A2 (k + 1) d2) = W2 at HP ⊢
              have HYA : Hid (∀ U : World, Below V2.heap.size V2 U → U.cell? ⟨b1, 0, none⟩ = some (.int .i64 x.N) ∧ U.cell? ⟨b1, 1, none⟩ = some (.slice x.dA x.dm x.dc) ∧ U.cell? ⟨b1, 2, none⟩ = some (.slice x.tA x.tm x.tc)) := fun U hU => ⟨(HX2.out.w.below hU).c0, (HX2.out.w.below hU).c1, (HX2.out.w.below hU).c2⟩
              have HYW : Hid (∀ (U : World) (v : Value), Below V2.heap.size V2 (U.setCell ⟨g, 1, none⟩ v) → U.cell? ⟨b1, 0, none⟩ = some (.int .i64 x.N) ∧ U.cell? ⟨b1, 1, none⟩ = some (.slice x.dA x.dm x.dc) ∧ U.cell? ⟨b1, 2, none⟩ = some (.slice x.tA x.tm x.tc)) := fun U v hU => by
                have hb : Box U b1 x.cells 28 := (Go.Deep.blk_setCell_other U ⟨g, 1, none⟩ v b1 (Nat.ne_of_lt (Nat.lt_of_lt_of_le hb1V HP.out.hg))).symm.trans (HX2.out.w.below hU).box
                exact ⟨hb.cell 0 _ rfl, hb.cell 1 _ rfl, hb.cell 2 _ rfl⟩
              have HCN : Hid (∀ U, Hid (CS V2 g A2 (k + 1) d2 ((L.map Ld.O.id).take k ++ [a0]) nA k nc ((Bo.nears x.N x.D L).take k) bk rt fx 0 U) → Calls Try.prog 27 #[.agg #[.int .i64 x.N, .slice x.dA x.dm x.dc, .slice x.tA x.tm x.tc], .slice (some ad) m c2, .int .i64 (k : Int)] U fun e w' => e = .returned (.int .i64 z) ∧ Hid (CS V2 g A2 (k + 1) d2 ((L.map Ld.O.id).take k ++ [a0]) nA k nc ((Bo.nears x.N x.D L).take k) bk rt fx 0 w')) := fun U hU =>
                (nearest_b x.N x.dA x.dm x.dc x.D x.tA x.tm x.tc x.T (some ad) m c2 L k z U (HX2.out.w.below hU.out.bel).at_.ar HAR.out (HOS.out.below hU.out.bel) HNO.out HLL.out (by omega) hlt HZ.out).mono fun e w' ⟨e1, h⟩ => ⟨e1, hU.out.below h.out⟩
              have HNX : Hid (∀ A3 c3 W3, CS V2 g A2 (k + 1) d2 ((L.map Ld.O.id).take k ++ [a0]) A3 (k + 1) c3 ((Bo.nears x.N x.D L).take k ++ [z]) bk rt fx 0 W3 → CS V2 g A2 (k + 1) d2 ((L.map Ld.O.id).take (k + 1)) A3 (k + 1) c3 ((Bo.nears x.N x.D L).take (k + 1)) bk rt fx 0 W3) := fun A3 c3 W3 h => by
                have h1 : (L.map Ld.O.id).take (k + 1) = (L.map Ld.O.id).take k ++ [a0] := by rw [List.take_add_one, List.getElem?_map, HO.out]; rfl
                rw [h1, Bo.nears_take x.N x.D L k (by rw [HLL.out]; exact hlt), HZ.out]
                exact h
              have HU0 : Hid (CS V2 g A2 (k + 1) d2 ((L.map Ld.O.id).take k ++ [a0]) nA k nc ((Bo.nears x.N x.D L).take k) bk rt fx 0 W2.drew) := HP.out.below (Below.refl _ _).drew
              refine wp_region_held_drew (S := fun U : World => U.cell? ⟨b1, 0, none⟩ = some (.int .i64 x.N) ∧ U.cell? ⟨b1, 1, none⟩ = some (.slice x.dA x.dm x.dc) ∧ U.cell? ⟨b1, 2, none⟩ = some (.slice x.tA x.tm x.tc)) (by kernel_rfl) (by (try dsimp only); exact HYA.out _ HU0.out.bel) (fun hHeld => ?_)
              refine wpAnyH_take (i := 0) (v := ?_) (by simp only [List.getElem?_toArray, List.getElem?_cons_zero]; exact rfl) (by kernel_rfl) (by kernel_rfl) (by kernel_rfl) (by exact fun _ _ _ h => h) (Or.inl ⟨by rfl, ?_⟩) (by assumption) ?_
              rotate_left
              · intro w hSw; (try dsimp only at hSw); go_simp <;> with_reducible rfl
              try simp only [Act.put, List.setIfInBounds_toArray, List.set_cons_zero, List.set_cons_succ]
              refine wpAnyH_take (i := 2) (v := ?_) (by simp only [List.getElem?_toArray, List.getElem?_cons_succ, List.getElem?_cons_zero]; exact rfl) (by kernel_rfl) (by kernel_rfl) (by kernel_rfl) (by exact fun _ _ _ h => h) (Or.inl ⟨by rfl, ?_⟩) (by assumption) ?_
              rotate_left
              · intro w hSw; (try dsimp only at hSw); go_simp <;> with_reducible rfl
              try simp only [Act.put, List.setIfInBounds_toArray, List.set_cons_zero, List.set_cons_succ]
              refine wpAnyH_take (i := 3) (v := ?_) (by simp only [List.getElem?_toArray, List.getElem?_cons_succ, List.getElem?_cons_zero]; exact rfl) (by kernel_rfl) (by kernel_rfl) (by kernel_rfl) (by exact fun _ _ _ h => h) (Or.inl ⟨by rfl, ?_⟩) (by assumption) ?_
              rotate_left
              · intro w hSw; (try dsimp only at hSw); go_simp <;> with_reducible rfl
              try simp only [Act.put, List.setIfInBounds_toArray, List.set_cons_zero, List.set_cons_succ]
              refine wpAnyH_take (i := 4) (v := ?_) (by simp only [List.getElem?_toArray, List.getElem?_cons_succ, List.getElem?_cons_zero]; exact rfl) (by kernel_rfl) (by kernel_rfl) (by kernel_rfl) (by exact fun _ _ _ h => h) (Or.inl ⟨by rfl, ?_⟩) (by assumption) ?_
              rotate_left
              · intro w hSw; (try dsimp only at hSw); go_simp <;> with_reducible rfl
              try simp only [Act.put, List.setIfInBounds_toArray, List.set_cons_zero, List.set_cons_succ]
              refine wpAnyH_take (i := 5) (v := ?_) (by simp only [List.getElem?_toArray, List.getElem?_cons_succ, List.getElem?_cons_zero]; exact rfl) (by kernel_rfl) (by kernel_rfl) (by kernel_rfl) (by exact fun _ _ _ h => h) (Or.inl ⟨by rfl, ?_⟩) (by assumption) ?_
              rotate_left
              · intro w hSw; (try dsimp only at hSw); go_simp <;> with_reducible rfl
              try simp only [Act.put, List.setIfInBounds_toArray, List.set_cons_zero, List.set_cons_succ]
              refine wpAnyH_ready (rs := [1, 6]) (by kernel_rfl) (by simp) ?_
              refine AllReadyH.cons (by simp only [List.getElem?_toArray, List.getElem?_cons_succ, List.getElem?_cons_zero]; exact rfl) (fun K hK => ?_) (AllReadyH.cons (by simp only [List.getElem?_toArray, List.getElem?_cons_succ, List.getElem?_cons_zero]; exact rfl) (fun K hK => ?_) AllReadyH.nil)
              · have s1 : W2.drew.cell? ⟨g, 1, none⟩ = some (.slice nA k nc) := HU0.out.box.cell 1 _ rfl
                go_simp
                clear hHeld
                refine hK.out _ _ ?_ (fun hHeld => ?_)
                · (try dsimp only); exact HYA.out _ HU0.out.bel
                clear hK K
                try simp only [Act.put, List.setIfInBounds_toArray, List.set_cons_zero, List.set_cons_succ]
                clear s1
                refine wpAnyH_ready (rs := [6]) (by kernel_rfl) (by simp) ?_
                refine AllReadyH.cons (by simp only [List.getElem?_toArray, List.getElem?_cons_succ, List.getElem?_cons_zero]; exact rfl) (fun K hK => ?_) AllReadyH.nil
                go_simp
                go_at_call 27
                with_reducible refine (HCN.out _ HU0).mono ?_
                rintro e w5 ⟨rfl, kU⟩
                go_wp2_with fail
                clear hHeld
                refine hK.out _ _ ?_ (fun hHeld => ?_)
                · (try dsimp only); exact HYA.out _ kU.out.bel
                clear hK K
                try simp only [Act.put, List.setIfInBounds_toArray, List.set_cons_zero, List.set_cons_succ]
                refine wpAnyH_ready (rs := [7]) (by kernel_rfl) (by simp) ?_
                refine AllReadyH.cons (by simp only [List.getElem?_toArray, List.getElem?_cons_succ, List.getElem?_cons_zero]; exact rfl) (fun K hK => ?_) AllReadyH.nil
                go_simp
                clear hHeld
                refine hK.out _ _ ?_ (fun hHeld => ?_)
                · (try dsimp only); exact HYA.out _ (below_more kU.out.bel _)
                clear hK K
                try simp only [Act.put, List.setIfInBounds_toArray, List.set_cons_zero, List.set_cons_succ]
                have HAP := Lib.hid (CS.dist kU.out z (by rw [List.length_take, Bo.nears_len]; omega) (k + 1) (by rw [List.length_append, List.length_take, Bo.nears_len, HLL.out]; simp; omega))
                refine wpAnyH_ready (rs := [8]) (by kernel_rfl) (by simp) ?_
                refine AllReadyH.cons (by simp only [List.getElem?_toArray, List.getElem?_cons_succ, List.getElem?_cons_zero]; exact rfl) (fun K hK => ?_) AllReadyH.nil
                refine step_append_w (w5.alloc (.cells #[.int .i64 z] 2)) (by with_reducible rfl) (by rfl) (.tmp 57) (.tmp 63) 22 22 22 (by rfl) (by rfl) (.slice nA k nc) (.slice (some ⟨w5.heap.size, 0, none⟩) 1 1) (by rfl) (by rfl) _ HAP.out ?_
                rintro v2 w6 ⟨A6, c6, rfl, e1, e2, HP6⟩
                clear hHeld
                refine hK.out _ _ ?_ (fun hHeld => ?_)
                · (try dsimp only); exact HYW.out _ _ HP6.out.bel
                clear hK K
                try simp only [Act.put, List.setIfInBounds_toArray, List.set_cons_zero, List.set_cons_succ]
                refine wpAnyH_take (i := 9) (v := ?_) (by simp only [List.getElem?_toArray, List.getElem?_cons_succ, List.getElem?_cons_zero]; exact rfl) (by kernel_rfl) (by kernel_rfl) (by kernel_rfl) (by exact fun _ _ _ h => h) (Or.inl ⟨by rfl, ?_⟩) (by assumption) ?_
                rotate_left
                · intro w hSw; (try dsimp only at hSw); go_simp <;> with_reducible rfl
                try simp only [Act.put, List.setIfInBounds_toArray, List.set_cons_zero, List.set_cons_succ]
                refine wpAnyH_ready (rs := [10]) (by kernel_rfl) (by simp) ?_
                refine AllReadyH.cons (by simp only [List.getElem?_toArray, List.getElem?_cons_succ, List.getElem?_cons_zero]; exact rfl) (fun K hK => ?_) AllReadyH.nil
                go_simp
                clear hHeld
                refine hK.out _ _ ?_ (fun hHeld => ?_)
                · (try dsimp only); exact HYA.out _ HP6.out.bel
                clear hK K
                try simp only [Act.put, List.setIfInBounds_toArray, List.set_cons_zero, List.set_cons_succ]
                refine wpAnyH_done (by kernel_rfl) ?_ _
                rotate_left
                clear hHeld
                go_wp2_with fail
                go_roundg gk
                case measure => omega
                case rel => exact ⟨k + 1, _, A2, d2, A6, c6, rfl, by omega, by first | rfl | go_num, HNX.out _ _ _ HP6.out⟩
              · go_simp
                go_at_call 27
                with_reducible refine (HCN.out _ HU0).mono ?_
                rintro e w5 ⟨rfl, kU⟩
                go_wp2_with fail
                clear hHeld
                refine hK.out _ _ ?_ (fun hHeld => ?_)
                · (try dsimp only); exact HYA.out _ kU.out.bel
                clear hK K
                try simp only [Act.put, List.setIfInBounds_toArray, List.set_cons_zero, List.set_cons_succ]
                refine wpAnyH_ready (rs := [1, 7]) (by kernel_rfl) (by simp) ?_
                refine AllReadyH.cons (by simp only [List.getElem?_toArray, List.getElem?_cons_succ, List.getElem?_cons_zero]; exact rfl) (fun K hK => ?_) (AllReadyH.cons (by simp only [List.getElem?_toArray, List.getElem?_cons_succ, List.getElem?_cons_zero]; exact rfl) (fun K hK => ?_) AllReadyH.nil)
                · have s1 : w5.cell? ⟨g, 1, none⟩ = some (.slice nA k nc) := kU.out.box.cell 1 _ rfl
                  go_simp
                  clear hHeld
                  refine hK.out _ _ ?_ (fun hHeld => ?_)
                  · (try dsimp only); exact HYA.out _ kU.out.bel
                  clear hK K
                  try simp only [Act.put, List.setIfInBounds_toArray, List.set_cons_zero, List.set_cons_succ]
                  clear s1
                  refine wpAnyH_ready (rs := [7]) (by kernel_rfl) (by simp) ?_
                  refine AllReadyH.cons (by simp only [List.getElem?_toArray, List.getElem?_cons_succ, List.getElem?_cons_zero]; exact rfl) (fun K hK => ?_) AllReadyH.nil
                  go_simp
                  clear hHeld
                  refine hK.out _ _ ?_ (fun hHeld => ?_)
                  · (try dsimp only); exact HYA.out _ (below_more kU.out.bel _)
                  clear hK K
                  try simp only [Act.put, List.setIfInBounds_toArray, List.set_cons_zero, List.set_cons_succ]
                  have HAP := Lib.hid (CS.dist kU.out z (by rw [List.length_take, Bo.nears_len]; omega) (k + 1) (by rw [List.length_append, List.length_take, Bo.nears_len, HLL.out]; simp; omega))
                  refine wpAnyH_ready (rs := [8]) (by kernel_rfl) (by simp) ?_
                  refine AllReadyH.cons (by simp only [List.getElem?_toArray, List.getElem?_cons_succ, List.getElem?_cons_zero]; exact rfl) (fun K hK => ?_) AllReadyH.nil
                  refine step_append_w (w5.alloc (.cells #[.int .i64 z] 2)) (by with_reducible rfl) (by rfl) (.tmp 57) (.tmp 63) 22 22 22 (by rfl) (by rfl) (.slice nA k nc) (.slice (some ⟨w5.heap.size, 0, none⟩) 1 1) (by rfl) (by rfl) _ HAP.out ?_
                  rintro v2 w6 ⟨A6, c6, rfl, e1, e2, HP6⟩
                  clear hHeld
                  refine hK.out _ _ ?_ (fun hHeld => ?_)
                  · (try dsimp only); exact HYW.out _ _ HP6.out.bel
                  clear hK K
                  try simp only [Act.put, List.setIfInBounds_toArray, List.set_cons_zero, List.set_cons_succ]
                  refine wpAnyH_take (i := 9) (v := ?_) (by simp only [List.getElem?_toArray, List.getElem?_cons_succ, List.getElem?_cons_zero]; exact rfl) (by kernel_rfl) (by kernel_rfl) (by kernel_rfl) (by exact fun _ _ _ h => h) (Or.inl ⟨by rfl, ?_⟩) (by assumption) ?_
                  rotate_left
                  · intro w hSw; (try dsimp only at hSw); go_simp <;> with_reducible rfl
                  try simp only [Act.put, List.setIfInBounds_toArray, List.set_cons_zero, List.set_cons_succ]
                  refine wpAnyH_ready (rs := [10]) (by kernel_rfl) (by simp) ?_
                  refine AllReadyH.cons (by simp only [List.getElem?_toArray, List.getElem?_cons_succ, List.getElem?_cons_zero]; exact rfl) (fun K hK => ?_) AllReadyH.nil
                  go_simp
                  clear hHeld
                  refine hK.out _ _ ?_ (fun hHeld => ?_)
                  · (try dsimp only); exact HYA.out _ HP6.out.bel
                  clear hK K
                  try simp only [Act.put, List.setIfInBounds_toArray, List.set_cons_zero, List.set_cons_succ]
                  refine wpAnyH_done (by kernel_rfl) ?_ _
                  rotate_left
                  clear hHeld
                  go_wp2_with fail
                  go_roundg gk
                  case measure => omega
                  case rel => exact ⟨k + 1, _, A2, d2, A6, c6, rfl, by omega, by first | rfl | go_num, HNX.out _ _ _ HP6.out⟩
                · go_simp
                  clear hHeld
                  refine hK.out _ _ ?_ (fun hHeld => ?_)
                  · (try dsimp only); exact HYA.out _ (below_more kU.out.bel _)
                  clear hK K
                  try simp only [Act.put, List.setIfInBounds_toArray, List.set_cons_zero, List.set_cons_succ]
                  refine wpAnyH_ready (rs := [1]) (by kernel_rfl) (by simp) ?_
                  refine AllReadyH.cons (by simp only [List.getElem?_toArray, List.getElem?_cons_succ, List.getElem?_cons_zero]; exact rfl) (fun K hK => ?_) AllReadyH.nil
                  have s1 : (w5.alloc (.cells #[.int .i64 z] 2)).cell? ⟨g, 1, none⟩ = some (.slice nA k nc) := (kU.out.below (below_alloc _ _)).box.cell 1 _ rfl
                  go_simp
                  clear hHeld
                  refine hK.out _ _ ?_ (fun hHeld => ?_)
                  · (try dsimp only); exact HYA.out _ (below_more kU.out.bel _)
                  clear hK K
                  try simp only [Act.put, List.setIfInBounds_toArray, List.set_cons_zero, List.set_cons_succ]
                  clear s1
                  have HAP := Lib.hid (CS.dist kU.out z (by rw [List.length_take, Bo.nears_len]; omega) (k + 1) (by rw [List.length_append, List.length_take, Bo.nears_len, HLL.out]; simp; omega))
                  refine wpAnyH_ready (rs := [8]) (by kernel_rfl) (by simp) ?_
                  refine AllReadyH.cons (by simp only [List.getElem?_toArray, List.getElem?_cons_succ, List.getElem?_cons_zero]; exact rfl) (fun K hK => ?_) AllReadyH.nil
                  refine step_append_w (w5.alloc (.cells #[.int .i64 z] 2)) (by with_reducible rfl) (by rfl) (.tmp 57) (.tmp 63) 22 22 22 (by rfl) (by rfl) (.slice nA k nc) (.slice (some ⟨w5.heap.size, 0, none⟩) 1 1) (by rfl) (by rfl) _ HAP.out ?_
                  rintro v2 w6 ⟨A6, c6, rfl, e1, e2, HP6⟩
                  clear hHeld
                  refine hK.out _ _ ?_ (fun hHeld => ?_)
                  · (try dsimp only); exact HYW.out _ _ HP6.out.bel
                  clear hK K
                  try simp only [Act.put, List.setIfInBounds_toArray, List.set_cons_zero, List.set_cons_succ]
                  refine wpAnyH_take (i := 9) (v := ?_) (by simp only [List.getElem?_toArray, List.getElem?_cons_succ, List.getElem?_cons_zero]; exact rfl) (by kernel_rfl) (by kernel_rfl) (by kernel_rfl) (by exact fun _ _ _ h => h) (Or.inl ⟨by rfl, ?_⟩) (by assumption) ?_
                  rotate_left
                  · intro w hSw; (try dsimp only at hSw); go_simp <;> with_reducible rfl
                  try simp only [Act.put, List.setIfInBounds_toArray, List.set_cons_zero, List.set_cons_succ]
                  refine wpAnyH_ready (rs := [10]) (by kernel_rfl) (by simp) ?_
                  refine AllReadyH.cons (by simp only [List.getElem?_toArray, List.getElem?_cons_succ, List.getElem?_cons_zero]; exact rfl) (fun K hK => ?_) AllReadyH.nil
                  go_simp
                  clear hHeld
                  refine hK.out _ _ ?_ (fun hHeld => ?_)
                  · (try dsimp only); exact HYA.out _ HP6.out.bel
                  clear hK K
                  try simp only [Act.put, List.setIfInBounds_toArray, List.set_cons_zero, List.set_cons_succ]
                  refine wpAnyH_done (by kernel_rfl) ?_ _
                  rotate_left
                  clear hHeld
                  go_wp2_with fail
                  go_roundg gk
                  case measure => omega
                  case rel => exact ⟨k + 1, _, A2, d2, A6, c6, rfl, by omega, by first | rfl | go_num, HNX.out _ _ _ HP6.out⟩
            · obtain rfl : k = m := by omega
              have HK2 : Hid (CS V2 g iA k ic (L.map Ld.O.id) nA k nc (Bo.nears x.N x.D L) bk rt fx 0 W0) := by
                have h := HK.out
                rw [List.take_of_length_le (by rw [List.length_map, HLL.out]; exact Nat.le_refl _), List.take_of_length_le (by rw [Bo.nears_len, HLL.out]; exact Nat.le_refl _)] at h
                exact h
              clear HK hkg hlt
              obtain ⟨v, hv⟩ : ∃ v, Bo.worth (Bo.nears x.N x.D L) bk rt fx = v := ⟨_, rfl⟩
              have HNL : Hid ((Bo.nears x.N x.D L).length = k) := by unfold Hid; rw [Bo.nears_len]; exact HLL.out
              have HIL : Hid ((L.map Ld.O.id).length = k) := by unfold Hid; rw [List.length_map]; exact HLL.out
              have HNI : Hid (IntsAt W0 nA (Bo.nears x.N x.D L)) := by
                obtain ⟨A', c', e, _, _, hI⟩ := HK2.out.on.ints
                injection e with e1 e2 e3
                subst e1
                exact hI
              have HRES : Hid (r = ((⟨L.map Ld.O.id, Bo.nears x.N x.D L, bk, rt, fx, v⟩ : Bo.C), 0)) := by
                unfold Hid
                rw [HE.out]
                unfold Bo.certOf
                rw [HBK.out, HRT.out, HFX.out, hv]
              have HCB : Hid (Calls Try.prog 28 #[.agg #[.slice iA k ic, .slice nA k nc, .int .i64 bk, .int .i64 rt, .int .i64 fx, .int .i64 0]] W0 fun e w' => e = .returned (.tuple #[.int .i64 v, .int .i64 0]) ∧ w'.cell? ⟨g, 0, none⟩ = some (.slice iA k ic) ∧ w'.cell? ⟨g, 1, none⟩ = some (.slice nA k nc) ∧ w'.cell? ⟨g, 2, none⟩ = some (.int .i64 bk) ∧ w'.cell? ⟨g, 3, none⟩ = some (.int .i64 rt) ∧ w'.cell? ⟨g, 4, none⟩ = some (.int .i64 fx) ∧ w'.cell? ⟨g, 5, none⟩ = some (.int .i64 0) ∧ w'.frozen? ⟨g, 5, none⟩ = false ∧ w'.cell? ⟨b2, 0, none⟩ = some (.slice none 0 0) ∧ w'.frozen? ⟨b2, 0, none⟩ = false ∧ w'.cell? ⟨b2, 1, none⟩ = some (.slice none 0 0) ∧ w'.frozen? ⟨b2, 1, none⟩ = false ∧ w'.cell? ⟨b2, 2, none⟩ = some (.int .i64 0) ∧ w'.frozen? ⟨b2, 2, none⟩ = false ∧ w'.cell? ⟨b2, 3, none⟩ = some (.int .i64 0) ∧ w'.frozen? ⟨b2, 3, none⟩ = false ∧ w'.cell? ⟨b2, 4, none⟩ = some (.int .i64 0) ∧ w'.frozen? ⟨b2, 4, none⟩ = false ∧ w'.cell? ⟨b2, 5, none⟩ = some (.int .i64 0) ∧ w'.frozen? ⟨b2, 5, none⟩ = false ∧ Hid (CS V2 g iA k ic (L.map Ld.O.id) nA k nc (Bo.nears x.N x.D L) bk rt fx 0 w' ∧ Box w' b2 #[.slice none 0 0, .slice none 0 0, .int .i64 0, .int .i64 0, .int .i64 0, .int .i64 0] 31)) :=
                (boundOf_b iA k ic nA k nc _ bk rt fx 0 v W0 HNL.out h12 HNI.out HNB.out HBB.out.1 HBB.out.2 HRB.out.1 HRB.out.2 HFB.out.1 HFB.out.2 hv).mono fun e w' ⟨e1, h⟩ => by
                  have h3 := HK2.out.below h.out
                  have h4 := HX2.out.q.below h3.bel
                  exact ⟨e1, h3.box.cell 0 _ rfl, h3.box.cell 1 _ rfl, h3.box.cell 2 _ rfl, h3.box.cell 3 _ rfl, h3.box.cell 4 _ rfl, h3.box.cell 5 _ rfl, h3.box.fz 5, h4.cell 0 _ rfl, h4.fz 0, h4.cell 1 _ rfl, h4.fz 1, h4.cell 2 _ rfl, h4.fz 2, h4.cell 3 _ rfl, h4.fz 3, h4.cell 4 _ rfl, h4.fz 4, h4.cell 5 _ rfl, h4.fz 5, h3, h4⟩
              clear hv
              have y0 := HK2.out.box.cell 0 _ rfl
              have y1 := HK2.out.box.cell 1 _ rfl
              have y2 := HK2.out.box.cell 2 _ rfl
              have y3 := HK2.out.box.cell 3 _ rfl
              have y4 := HK2.out.box.cell 4 _ rfl
              have y5 := HK2.out.box.cell 5 _ rfl
              have hgb : g ≠ b2 := fun e => Nat.lt_irrefl _ (Nat.lt_of_lt_of_le HBS2.out (e ▸ HK2.out.hg))
              go_wp2_with (go_at_call 28; (with_reducible refine HCB.out.mono ?_); rintro e w5 ⟨rfl, u0, u1, u2, u3, u4, u5, u6, q0, p0, q1, p1, q2, p2, q3, p3, q4, p4, q5, p5, h5⟩)
              have hq : Box (w5.setCell ⟨g, 5, none⟩ (.int .i64 v)) b2 #[.slice none 0 0, .slice none 0 0, .int .i64 0, .int .i64 0, .int .i64 0, .int .i64 0] 31 := (Go.Deep.blk_setCell_other w5 ⟨g, 5, none⟩ _ b2 (Ne.symm hgb)).trans h5.out.2
              exact bodyPost_ret (results_cert (v := .int .i64 0) rfl _ (cert_set hq _ _ _ _ _ _) rfl rfl rfl) rfl (by rw [HRES.out]; exact MakePost.done h5.out.1 HB2'.out HB2.out HBS2.out hn2 HIL.out HNL.out rfl)
    · have HE : Hid (r = (Bo.none, ec)) := by
        unfold Hid
        rw [← HR.out]
        rcases hres.out with ⟨rfl, h⟩ | ⟨rfl, h, h'⟩ | ⟨h, _⟩
        · exact Bo.make_twice HEW.out h
        · exact Bo.make_name HEW.out h h'
        · exact absurd h hec
      have d1 : (ec != 0) = true := bne_iff_ne.2 hec
      have z0 := HX2.out.q.cell 0 _ rfl
      have z1 := HX2.out.q.cell 1 _ rfl
      have z2 := HX2.out.q.cell 2 _ rfl
      have z3 := HX2.out.q.cell 3 _ rfl
      have z4 := HX2.out.q.cell 4 _ rfl
      have z5 := HX2.out.q.cell 5 _ rfl
      have f0 := HX2.out.q.fz 0
      have f1 := HX2.out.q.fz 1
      have f2 := HX2.out.q.fz 2
      have f3 := HX2.out.q.fz 3
      have f4 := HX2.out.q.fz 4
      have f5 := HX2.out.q.fz 5
      clear hres hec
      go_wp2
      exact bodyPost_ret (results_cert (v := .int .i64 ec) rfl _ (cert_set HX2.out.q _ _ _ _ _ _) rfl rfl rfl) rfl (MakePost.zero HE.out (below_set6 HB2'.out _ HB2.out _ _ _ _ _ _))
  · have HE : Hid (r = (Bo.none, ew)) := by
      unfold Hid
      rw [← HR.out]
      exact Bo.make_world HEW.out h0
    have d1 : (ew != 0) = true := bne_iff_ne.2 h0
    have z0 := HX1.out.q.cell 0 _ rfl
    have z1 := HX1.out.q.cell 1 _ rfl
    have z2 := HX1.out.q.cell 2 _ rfl
    have z3 := HX1.out.q.cell 3 _ rfl
    have z4 := HX1.out.q.cell 4 _ rfl
    have z5 := HX1.out.q.cell 5 _ rfl
    have f0 := HX1.out.q.fz 0
    have f1 := HX1.out.q.fz 1
    have f2 := HX1.out.q.fz 2
    have f3 := HX1.out.q.fz 3
    have f4 := HX1.out.q.fz 4
    have f5 := HX1.out.q.fz 5
    clear h0
    go_wp2
    exact bodyPost_ret (results_cert (v := .int .i64 ew) rfl _ (cert_set HX1.out.q _ _ _ _ _ _) rfl rfl rfl) rfl (MakePost.zero HE.out (below_set6 HB1.out _ HB2.out _ _ _ _ _ _))
end Go.Proofs.Ytbacakblboodeaa
