/- Texts joined: The document's answer for plans: Check. The document's answer for plans: Less. -/
import Derived.Test.YtgjmlnpfkmpfgaaGreatPlanR2
import Derived.Test.YtgjmlnpfkmpfgaaGreatPlanC
import Derived.Test.YtgjmlnpfkmpfgaaGreatPlanL
import Derived.Test.YtgjmlnpfkmpfgaaGreatRouteRC
import Derived.Deep.RegionHeld3
import Derived.Deep.RegionLaw
import Derived.Test.YtgjmlnpfkmpfgaaGreatPlanD
import Derived.Test.YtgjmlnpfkmpfgaaGreatPlanE
section
/-! The document's answer for plans: Check. -/
namespace Pl
theorem tw_next {l : List Int} {k : Nat} {x : Int} (h : l[k]? = some x) : Ld.twB (l.take (k + 1)) = (Ld.twB (l.take k) || (l.take k).contains x) := by
  have e : l.take (k + 1) = l.take k ++ [x] := by rw [List.take_add_one, h]; rfl
  rw [e]
  generalize l.take k = a
  have hn : (a ++ [x]).Nodup ↔ a.Nodup ∧ x ∉ a := by
    rw [(List.perm_append_comm (l₁ := a) (l₂ := [x])).nodup_iff]
    show (x :: a).Nodup ↔ _
    rw [List.nodup_cons]
    exact and_comm
  unfold Ld.twB
  by_cases h1 : a.Nodup <;> by_cases h2 : x ∈ a <;> simp [hn, h1, h2]
theorem dup_next {l : List Int} {k : Nat} {x y : Int} (h1 : l[k]? = some x) (h2 : l[k + 1]? = some y) : dupB (l.take (k + 2)) = (dupB (l.take (k + 1)) || (y == x)) := by
  induction l generalizing k with
  | nil => simp at h1
  | cons a r ih =>
    cases r with
    | nil => simp at h2
    | cons b r =>
      cases k with
      | zero =>
        simp at h1 h2
        subst h1 h2
        show ((a == b) || dupB [b]) = (dupB [a] || (b == a))
        rw [dup_one, dup_one, Bool.or_false, Bool.false_or, Bool.beq_comm]
      | succ k =>
        have := ih (k := k) (by simpa using h1) (by simpa using h2)
        show ((a == b) || dupB ((b :: r).take (k + 2))) = (((a == b) || dupB ((b :: r).take (k + 1))) || (y == x))
        rw [this, Bool.or_assoc]
theorem dup_one' (l : List Int) : dupB (l.take 1) = false := by
  cases l with
  | nil => rfl
  | cons a r => rfl
theorem costs_next (f : Ro → Rt.R) {rs : List Ro} {k : Nat} {r : Ro} (h : rs[k]? = some r) : (costs f (rs.take (k + 1))).sum = (costs f (rs.take k)).sum + (f r).cost := by
  unfold costs
  rw [List.take_add_one, h, List.map_append, List.sum_append]
  simp
theorem trs_at {rs : List Ro} {k : Nat} {r : Ro} (h : rs[k]? = some r) : (trs rs)[k]? = some r.tr := by unfold trs; rw [List.getElem?_map, h]; rfl
end Pl
namespace Go.Proofs.YtgjmlnpfkmpfgaaGreat
open Go.RowKit
set_option linter.unusedVariables false
set_option maxRecDepth 100000

def DTBox (V : World) (r : Rt.R) (n : Nat) (s : Value) (W : World) : Prop := ∃ q A c, s = .pointer (some ⟨q, 0, none⟩) ∧ Hid (Box W q #[.slice A n c, .int .i64 r.back, .int .i64 r.dist, .int .i64 r.cost] 87 ∧ Below V.heap.size V W)
theorem dtbox_new {V w : World} {r : Rt.R} {n : Nat} {A : Option Addr} {c : Nat} (hb : Below V.heap.size V w) :
    DTBox V r n (.pointer (some ⟨w.heap.size, 0, none⟩)) (w.alloc (.cells #[.slice A n c, .int .i64 r.back, .int .i64 r.dist, .int .i64 r.cost] 87)) :=
  ⟨_, A, c, rfl, Box.new _ _ _, below_more hb _⟩
theorem dtbox_set {V w : World} {r : Rt.R} {n : Nat} {A : Option Addr} {c : Nat} (hU : Below (V.alloc (.cells #[.slice none 0 0, .int .i64 0, .int .i64 0, .int .i64 0] 87)).drew.heap.size (V.alloc (.cells #[.slice none 0 0, .int .i64 0, .int .i64 0, .int .i64 0] 87)).drew w) :
    DTBox V r n (.pointer (some ⟨V.heap.size, 0, none⟩)) ((((w.setCell ⟨V.heap.size, 0, none⟩ (.slice A n c)).setCell ⟨V.heap.size, 1, none⟩ (.int .i64 r.back)).setCell ⟨V.heap.size, 2, none⟩ (.int .i64 r.dist)).setCell ⟨V.heap.size, 3, none⟩ (.int .i64 r.cost)) := by
  have hbx : Box (V.alloc (.cells #[.slice none 0 0, .int .i64 0, .int .i64 0, .int .i64 0] 87)).drew V.heap.size #[.slice none 0 0, .int .i64 0, .int .i64 0, .int .i64 0] 87 := Box.new V _ _
  exact ⟨_, A, c, rfl, dtrip_set (hbx.below hU) _ _ _ _, below_set4 (below_next (below_alloc V (.cells #[.slice none 0 0, .int .i64 0, .int .i64 0, .int .i64 0] 87)).drew hU) _ (Nat.le_refl _) _ _ _ _⟩

set_option maxHeartbeats 20000000 in
theorem dcheck_b (x : Wd) (p : Pd) (w : World) (c : Int × Int) (hc : Pl.checkS x.N x.D x.T x.os x.ts (ros p.rs) p.us = c) (hx : WAt w x) (hp : PAt w p) :
    Calls Tryz.prog 24 #[.agg #[.int .i64 x.N, .slice x.dA x.dm x.dc, .slice x.tA x.tm x.tc, .slice x.A x.m x.c, .slice x.B x.k x.d], .agg #[.slice p.rA p.rm p.rc, .slice p.uA p.um p.uc]] w (CheckPost w c) := by
  have HX := Lib.hid (WPB.new hx hp)
  have HB0 : Hid (Below w.heap.size w ((w.alloc (.cells #[.int .i64 x.N, .slice x.dA x.dm x.dc, .slice x.tA x.tm x.tc, .slice x.A x.m x.c, .slice x.B x.k x.d] 28)).alloc (.cells #[.slice p.rA p.rm p.rc, .slice p.uA p.um p.uc] 32))) := below_more (below_alloc _ _) _
  have HCK := Lib.hid hc
  have HRL : Hid ((ros p.rs).length = p.rm) := by unfold Hid; rw [ros_len]; exact hp.rl
  have hrm := hp.r2
  clear hx hp hc
  obtain ⟨f, hf⟩ : ∃ f, Rt.worldE x.N x.D x.T x.os x.ts = f := ⟨_, rfl⟩
  have HF := Lib.hid hf
  go_enter Tryz.func24, Tryz.ntmps24
  have x0 := HX.out.w.c0
  have x1 := HX.out.w.c1
  have x2 := HX.out.w.c2
  have x3 := HX.out.w.c3
  have x4 := HX.out.w.c4
  go_wp2_with fail
  clear x0 x1 x2 x3 x4
  generalize ((w.alloc (.cells #[.int .i64 x.N, .slice x.dA x.dm x.dc, .slice x.tA x.tm x.tc, .slice x.A x.m x.c, .slice x.B x.k x.d] 28)).alloc (.cells #[.slice p.rA p.rm p.rc, .slice p.uA p.um p.uc] 32)) = V at *
  generalize w.heap.size + 1 = b2 at *
  generalize hb1 : w.heap.size = b1 at HX ⊢
  clear hb1
  have HC := Lib.hid (dworld_b x V f hf HX.out.w.at_)
  clear hf
  with_reducible refine HC.out.mono ?_
  rintro e V1 ⟨rfl, hV1⟩
  have HX1 := Lib.hid (HX.out.below hV1.out)
  have HB1 := Lib.hid (below_next HB0.out hV1.out)
  clear HC HX HB0 hV1
  by_cases hf0 : f = 0
  · subst hf0
    have e1 : ((0 : Int) != (0 : Int)) = false := by decide
    have y0 := HX1.out.p.c0
    by_cases hl6 : 6 < p.rm
    · have d6 : decide ((6 : Int) < (p.rm : Int)) = true := decide_eq_true (by omega)
      have HE : Hid (c = (0, 4)) := by rw [← HCK.out]; exact Pl.ck_full HF.out (by rw [HRL.out]; exact hl6)
      clear hl6
      go_wp2_with fail
      go_ret2
      exact CheckPost.mk HE.out HB1.out
    · have d6 : decide ((6 : Int) < (p.rm : Int)) = false := decide_eq_false (by omega)
      have HL6 : Hid (¬ 6 < (ros p.rs).length) := by unfold Hid; rw [HRL.out]; exact hl6
      have hl7 : p.rm ≤ 6 := by omega
      clear hl6
      have HV3 : Hid (Below V1.heap.size V1 (V1.alloc (.cells #[] 3)) ∧ V1.heap.size ≤ (V1.alloc (.cells #[] 3)).heap.size) := ⟨below_alloc _ _, (below_alloc V1 _).size⟩
      have HO0 : Hid (OwnI (V1.alloc (.cells #[] 3)) V1.heap.size (.slice (some ⟨V1.heap.size, 0, none⟩) 0 0) []) := own_none V1 _ (Nat.le_refl _)
      go_wp2_with fail
      clear y0
      generalize V1.alloc (.cells #[] 3) = V3 at *
      go_loopg [4, 5, 7, 8, 9, 10] p.rm (fun gk s4 s5 s7 s8 s9 s10 W => ∃ (k cc : Nat) (S : Int) (u : Bool) (A : Option Addr) (W0 : World), W0 = W ∧ k + gk = p.rm ∧ s4 = .int .i64 0 ∧ s5 = .int .i64 0 ∧ s7 = .int .i64 S ∧ s8 = .slice A k cc ∧ s9 = .bool u ∧ s10 = .int .i64 k ∧ 0 ≤ S ∧ S ≤ 20000000000 * (k : Int) ∧ Hid (S = (Pl.costs (Pl.run x.N x.D x.T x.os x.ts) ((ros p.rs).take k)).sum) ∧ Hid (u = Ld.twB ((Pl.trs (ros p.rs)).take k)) ∧ Hid (Below V1.heap.size V1 W0 ∧ V1.heap.size ≤ W0.heap.size) ∧ Hid (OwnI W0 V1.heap.size (.slice A k cc) ((Pl.trs (ros p.rs)).take k)) ∧ Hid (∀ (j : Nat) (s : Pl.Ro), j < k → (ros p.rs)[j]? = some s → (Pl.run x.N x.D x.T x.os x.ts s).e = 0))
      case atStart => exact ⟨0, 0, 0, false, _, _, rfl, by omega, rfl, rfl, rfl, rfl, rfl, rfl, by omega, by omega, rfl, rfl, HV3.out, HO0.out, fun j s hj => by omega⟩
      case round =>
        obtain ⟨k, cc, S, u, A, W0, rfl, hkg, rfl, rfl, rfl, rfl, rfl, rfl, hS0, hS1, HSUM, HU, HK, HO, HE⟩ := hrel
        have HX0 := Lib.hid (HX1.out.below HK.out.1)
        by_cases hlt : k < p.rm
        · obtain ⟨gk, rfl⟩ : ∃ j, gk = j + 1 := ⟨gk - 1, by omega⟩
          obtain ⟨r, hr⟩ := mlist_at p.rs k (by rw [HX0.out.p.at_.rl]; exact hlt)
          obtain ⟨ad, hrA, hc, hra⟩ := HX0.out.p.at_.at_ hr
          have i2 : (k : Int) < (p.rm : Int) := by omega
          have HRK := Lib.hid (ros_at hr)
          have HRP := Lib.hid hr
          have HPA := Lib.hid hrA
          have HRAV := Lib.hid hra
          obtain ⟨res, hres⟩ : ∃ z, Pl.run x.N x.D x.T x.os x.ts r.ro = z := ⟨_, rfl⟩
          have HRES := Lib.hid hres
          obtain ⟨n2, hn2⟩ : ∃ n, res.vs.length = n := ⟨_, rfl⟩
          have HC : Hid (∀ U : World, Below W0.heap.size W0 U → Calls Tryz.prog 51 #[.agg #[.int .i64 x.N, .slice x.dA x.dm x.dc, .slice x.tA x.tm x.tc, .slice x.A x.m x.c, .slice x.B x.k x.d], .agg #[.int .i64 r.tr, .slice r.sA r.sm r.sc]] U fun e w' => ∃ A3 c3, e = .returned (.tuple #[.agg #[.slice A3 n2 c3, .int .i64 res.back, .int .i64 res.dist, .int .i64 res.cost], .int .i64 res.e]) ∧ (∀ b o, b < U.heap.size → w'.cell? ⟨b, o, none⟩ = U.cell? ⟨b, o, none⟩) ∧ (∀ b o, b < U.heap.size → w'.frozen? ⟨b, o, none⟩ = U.frozen? ⟨b, o, none⟩) ∧ Hid (Below U.heap.size U w')) := by
            intro U hU
            refine (drun_b x r U res hres (HX0.out.below hU).w.at_ (HRAV.out.below hU)).mono ?_
            rintro e w' ⟨A3, c3, rfl, h5⟩
            rw [hn2]
            exact ⟨A3, c3, rfl, fun b o hb => h5.out.1.cell (p := ⟨b, o, none⟩) hb, fun b o hb => h5.out.1.frozen (p := ⟨b, o, none⟩) hb, h5.out.1⟩
          have HB : Hid (Below W0.heap.size W0 W0.drew) := (Below.refl W0.heap.size W0).drew
          have HBa : Hid (Below W0.heap.size W0 (W0.alloc (.cells #[.slice none 0 0, .int .i64 0, .int .i64 0, .int .i64 0] 87)).drew) := (below_alloc W0 (.cells #[.slice none 0 0, .int .i64 0, .int .i64 0, .int .i64 0] 87)).drew
          have HXT := Lib.hid (HX0.out.below (below_alloc W0 (.cells #[.slice none 0 0, .int .i64 0, .int .i64 0, .int .i64 0] 87)))
          have HX0' := Lib.hid HX0.out
          have a0 : W0.cell? ⟨b2, 0, none⟩ = some (.slice (some ad) p.rm p.rc) := by have h := HX0.out.p.c0; rw [HPA.out] at h; exact h
          clear hr hrA hra hres hn2 hc
          go_upto_region 12 with fail
          clear a0
          go_cut [11, 12] (fun s11 s12 W => ∃ V4 : World, V4 = W ∧ s12 = .int .i64 res.e ∧ DTBox W0 res n2 s11 V4)
          case first => as_aux_lemma =>
            obtain ⟨ad', hrA', ⟨f0, f1⟩, _⟩ := HX0.out.p.at_.at_ HRP.out
            obtain rfl : ad' = ad := by rw [HPA.out] at hrA'; exact (Option.some.inj hrA').symm
            obtain ⟨ad2, hrA2, ⟨t0, t1⟩, _⟩ := HXT.out.p.at_.at_ HRP.out
            obtain rfl : ad2 = ad' := by rw [HPA.out] at hrA2; exact (Option.some.inj hrA2).symm
            have c0 := HX0.out.w.c0
            have c1 := HX0.out.w.c1
            have c2 := HX0.out.w.c2
            have c3 := HX0.out.w.c3
            have c4 := HX0.out.w.c4
            have a0 : W0.cell? ⟨b2, 0, none⟩ = some (.slice (some ad2) p.rm p.rc) := by have h := HX0.out.p.c0; rw [HPA.out] at h; exact h
            have u0 := HXT.out.w.c0
            have u1 := HXT.out.w.c1
            have u2 := HXT.out.w.c2
            have u3 := HXT.out.w.c3
            have u4 := HXT.out.w.c4
            have s0 : (W0.alloc (.cells #[.slice none 0 0, .int .i64 0, .int .i64 0, .int .i64 0] 87)).cell? ⟨b2, 0, none⟩ = some (.slice (some ad2) p.rm p.rc) := by have h := HXT.out.p.c0; rw [HPA.out] at h; exact h
            clear hrA' hrA2
            go_region_law (first
              | (go_simp; go_at_call 51; ((with_reducible refine (HC.out (W0.drew) HB.out).mono ?_)); rintro e w5 ⟨A3, cA3, rfl, kc, kf, kU⟩)
              | (go_simp; go_at_call 51; ((with_reducible refine (HC.out ((W0.alloc (.cells #[.slice none 0 0, .int .i64 0, .int .i64 0, .int .i64 0] 87)).drew) HBa.out).mono ?_)); rintro e w5 ⟨A3, cA3, rfl, kc, kf, kU⟩))
            all_goals
              clear kc kf u0 u1 u2 u3 u4 s0 c0 c1 c2 c3 c4 a0 f0 f1 t0 t1
              go_wp2
              go_meet
              case rel =>
                refine ⟨_, rfl, rfl, ?_⟩
                first
                  | with_reducible exact dtbox_new (below_next HB.out kU.out)
                  | with_reducible exact dtbox_set kU.out
          case rest =>
            obtain ⟨V4, rfl, rfl, q1, A3, cA3, rfl, HTB⟩ := hcut
            clear HC HB HBa HXT
            have HX4 := Lib.hid (HX0.out.below HTB.out.2)
            have HB4 := Lib.hid (below_next HK.out.1 HTB.out.2)
            have HO4 := Lib.hid (HO.out.below HTB.out.2)
            have HG4 : Hid (V1.heap.size ≤ V4.heap.size) := HB4.out.size
            by_cases he : res.e = 0
            · have e2 : (res.e != (0 : Int)) = false := by rw [he]; decide
              have t3 := HTB.out.1.cell 3 _ rfl
              have hcf := Pl.cost_fits (N := x.N) (D := x.D) (T := x.T) (os := x.os) (ts := x.ts) (r := r.ro) (by rw [HRES.out]; exact he)
              rw [HRES.out] at hcf
              obtain ⟨hc0, hc1⟩ := hcf
              have HE2 : Hid (∀ (j : Nat) (s : Pl.Ro), j < k + 1 → (ros p.rs)[j]? = some s → (Pl.run x.N x.D x.T x.os x.ts s).e = 0) := fun j s hj hs => by
                by_cases h : j < k
                · exact HE.out j s h hs
                · obtain rfl : j = k := by omega
                  rw [HRK.out] at hs
                  obtain rfl := Option.some.inj hs
                  rw [HRES.out]
                  exact he
              have HSUM2 : Hid (S + res.cost = (Pl.costs (Pl.run x.N x.D x.T x.os x.ts) ((ros p.rs).take (k + 1))).sum) := by
                unfold Hid; rw [Pl.costs_next _ HRK.out, HSUM.out, HRES.out]
              have HTR : Hid ((Pl.trs (ros p.rs))[k]? = some r.tr) := Pl.trs_at HRK.out
              have HTN := Lib.hid (Pl.tw_next HTR.out)
              have HTK : Hid ((Pl.trs (ros p.rs)).take (k + 1) = (Pl.trs (ros p.rs)).take k ++ [r.tr]) := by unfold Hid; rw [List.take_add_one, HTR.out]; rfl
              have HTL : Hid (((Pl.trs (ros p.rs)).take k).length = k) := by
                unfold Hid Pl.trs
                rw [List.length_take, List.length_map, HRL.out]
                omega
              have HML : Hid (((Pl.trs (ros p.rs)).take k ++ [r.tr]).length = k + 1) := by unfold Hid; rw [List.length_append, HTL.out]; rfl
              have HA := Lib.hid (owni_next (w := V1) (below_more HB4.out (.cells #[.int .i64 r.tr] 3)) (Nat.le_refl _) (Nat.le_trans HG4.out (below_alloc V4 _).size) (HO4.out.below (below_alloc V4 (.cells #[.int .i64 r.tr] 3))) (some ⟨V4.heap.size, 0, none⟩) 1 1 [r.tr] rfl (one_int V4 r.tr) (by rw [HTL.out]; omega) (k + 1) HML.out)
              obtain ⟨ad', hrA', ⟨f0, _⟩, _⟩ := HX4.out.p.at_.at_ HRP.out
              obtain rfl : ad' = ad := by rw [HPA.out] at hrA'; exact (Option.some.inj hrA').symm
              have a0 : V4.cell? ⟨b2, 0, none⟩ = some (.slice (some ad') p.rm p.rc) := by have h := HX4.out.p.c0; rw [HPA.out] at h; exact h
              obtain ⟨r2, hr2⟩ : ∃ r2, ((Pl.trs (ros p.rs)).take k).contains r.tr = r2 := ⟨_, rfl⟩
              have HR2 := Lib.hid hr2
              have HU2 : Hid ((u || r2) = Ld.twB ((Pl.trs (ros p.rs)).take (k + 1))) := by rw [HTN.out, ← HU.out, HR2.out]; exact rfl
              have HC := Lib.hid (din_b A k cc ((Pl.trs (ros p.rs)).take k) r.tr V4 r2 hr2 HTL.out (by omega) (by
                obtain ⟨A', c', e, _, _, hI⟩ := HO4.out.ints
                injection e with e1 _ _
                subst e1
                exact hI))
              clear he hr2 hrA' HTN
              cases u with
              | true =>
                go_wp2_with (at_builtin; refine wpList_append_any rfl (.tmp 60) (.tmp 67) 30 30 rfl _ _ rfl rfl _ HA.out ?_; intro v5 w5 hap; obtain ⟨A5, c5, rfl, HAP⟩ := hap)
                go_roundg gk
                case measure => omega
                case rel => exact ⟨k + 1, c5, S + res.cost, true, A5, _, rfl, by omega, rfl, rfl, rfl, rfl, rfl, by first | rfl | go_num, by omega, by omega, HSUM2.out, HU2.out, ⟨HAP.out.2.1, HAP.out.2.2.1⟩, by rw [HTK.out]; exact HAP.out.1, HE2.out⟩
              | false =>
                go_wp2_with fail
                with_reducible refine HC.out.mono ?_
                rintro e w9 ⟨rfl, rfl⟩
                go_wp2_with (at_builtin; refine wpList_append_any rfl (.tmp 60) (.tmp 67) 30 30 rfl _ _ rfl rfl _ HA.out ?_; intro v5 w5 hap; obtain ⟨A5, c5, rfl, HAP⟩ := hap)
                go_roundg gk
                case measure => omega
                case rel => exact ⟨k + 1, c5, S + res.cost, r2, A5, _, rfl, by omega, rfl, rfl, rfl, rfl, rfl, by first | rfl | go_num, by omega, by omega, HSUM2.out, HU2.out, ⟨HAP.out.2.1, HAP.out.2.2.1⟩, by rw [HTK.out]; exact HAP.out.1, HE2.out⟩
            · have e2 : (res.e != (0 : Int)) = true := bne_iff_ne.2 he
              have HT : Hid (Pl.tripE (Pl.run x.N x.D x.T x.os x.ts) (ros p.rs) = res.e) := by
                have := Pl.trip_first HRK.out HE.out (by rw [HRES.out]; exact he)
                rw [HRES.out] at this
                exact this
              have HEE : Hid (c = (0, res.e)) := by rw [← HCK.out]; exact Pl.ck_trip HF.out HL6.out HT.out he
              clear he
              go_wp2_with fail
              go_ret2
              exact CheckPost.mk HEE.out (below_next HB1.out HB4.out)
        · obtain rfl : k = p.rm := by omega
          obtain rfl : gk = 0 := by omega
          have HT : Hid (Pl.tripE (Pl.run x.N x.D x.T x.os x.ts) (ros p.rs) = 0) := Pl.trip_all fun j s hs => HE.out j s (by have := (List.getElem?_eq_some_iff.1 hs).1; rw [HRL.out] at this; exact this) hs
          have HALL : Hid ((ros p.rs).take p.rm = ros p.rs) := List.take_of_length_le (by rw [HRL.out]; exact Nat.le_refl _)
          have HALT : Hid ((Pl.trs (ros p.rs)).take p.rm = Pl.trs (ros p.rs)) := List.take_of_length_le (by unfold Pl.trs; rw [List.length_map, HRL.out]; exact Nat.le_refl _)
          have HS : Hid (S = (Pl.costs (Pl.run x.N x.D x.T x.os x.ts) (ros p.rs)).sum) := by rw [HSUM.out, HALL.out]; exact rfl
          have HU0 : Hid (u = Pl.dupB (Pl.srt (Pl.trs (ros p.rs)))) := by rw [HU.out, HALT.out, Pl.dup_tw]; exact rfl
          have HB3 := Lib.hid (below_next HB1.out HK.out.1)
          clear HSUM HU HO HK HX1 HB1 HE HV3 HO0
          have y0 := HX0.out.p.c0
          have y1 := HX0.out.p.c1
          have HC := Lib.hid (dserved_b p W0 HX0.out.p.at_)
          go_wp2_with fail
          clear y0 y1
          with_reducible refine HC.out.mono ?_
          rintro e V5 ⟨A5, c5, rfl, hc5, h5⟩
          have HX5 := Lib.hid (HX0.out.below h5.out.1)
          have HB5 := Lib.hid (below_next HB3.out h5.out.1)
          have HLS : Hid ((Pl.servedS (ros p.rs)).length ≤ 100000) := by unfold Hid Pl.servedS; rw [Pl.srt_len]; have := HX5.out.p.at_.tot; omega
          have HSV := Lib.hid h5.out.2.1
          clear HC HX0 HB3 h5 hc5
          obtain ⟨sv, hsv⟩ : ∃ s, Pl.servedS (ros p.rs) = s := ⟨_, rfl⟩
          have HSVE := Lib.hid hsv
          rw [hsv] at HLS HSV ⊢
          clear hsv
          obtain ⟨n5, hn5⟩ : ∃ n, sv.length = n := ⟨_, rfl⟩
          have HN5 := Lib.hid hn5
          rw [hn5] at HLS ⊢
          clear hn5
          have hn5l := HLS.out
          go_wp2_with fail
          go_loopg [9, 14] n5 (fun gk s9 s14 W => ∃ (i q : Nat) (v : Bool), i + gk = n5 + 1 ∧ 1 ≤ i ∧ s9 = .bool v ∧ s14 = .int .i64 i ∧ W = V5.drewN q ∧ Hid (v = (u || Pl.dupB (sv.take i))))
          case atStart => exact ⟨1, 0, u, by omega, by omega, rfl, rfl, rfl, by rw [Pl.dup_one']; cases u <;> rfl⟩
          case round =>
            obtain ⟨i, q, v, hig, hi1, rfl, rfl, rfl, HV⟩ := hrel
            have HW : Hid (∀ m, (V5.drewN q).drewN m = V5.drewN (q + m)) := fun m => by simp
            by_cases hlt : i < n5
            · obtain ⟨gi, rfl⟩ : ∃ j, gk = j + 1 := ⟨gk - 1, by omega⟩
              obtain ⟨j, hj⟩ : ∃ j, i = j + 1 := ⟨i - 1, by omega⟩
              obtain ⟨y, hy⟩ := mlist_at sv i (by rw [HN5.out]; exact hlt)
              obtain ⟨z, hz⟩ := mlist_at sv j (by rw [HN5.out]; omega)
              obtain ⟨ad, e, hc0⟩ := HSV.out i y hy
              obtain ⟨ad', e', hd0⟩ := HSV.out j z hz
              obtain rfl : ad' = ad := by rw [e] at e'; exact (Option.some.inj e').symm
              have HAE := Lib.hid e
              have hc1 : (V5.drewN q).cell? (ad'.add i) = some (.int .i64 y) := by simpa using hc0
              have hd1 : (V5.drewN q).cell? (ad'.add j) = some (.int .i64 z) := by simpa using hd0
              have HN : Hid ((v || (y == z)) = (u || Pl.dupB (sv.take (i + 1)))) := by
                have h2 := Pl.dup_next hz (by rw [← hj]; exact hy)
                subst hj
                unfold Hid
                rw [h2, ← Bool.or_assoc, ← HV.out]
              have j1 : (i : Int) - 1 = (j : Int) := by omega
              have j2 : IntKind.i64.wrap (j : Int) = (j : Int) := IntWalk.i64_in _ (by omega)
              have i2 : (i : Int) < (n5 : Int) := by omega
              have j4 : (0 : Int) ≤ (j : Int) := by omega
              have j5 : (j : Int) < (n5 : Int) := by omega
              clear e e' hy hz hc0 hd0 hj HSV
              obtain rfl := HAE.out
              generalize V5.drewN q = W at *
              cases v with
              | true =>
                clear hc1 hd1
                go_wp2
                go_quiet (fail)
                go_wp2
                go_roundg gi
                case measure => omega
                case rel => exact ⟨i + 1, _, true, by omega, by omega, rfl, by first | rfl | go_num, HW.out _, HN.out⟩
              | false =>
                by_cases hxy : y = z
                · have heq : (y == z) = true := beq_iff_eq.2 hxy
                  rw [heq] at HN
                  clear hxy
                  go_wp2
                  go_quiet (fail)
                  go_wp2
                  go_roundg gi
                  case measure => omega
                  case rel => exact ⟨i + 1, _, true, by omega, by omega, rfl, by first | rfl | go_num, HW.out _, HN.out⟩
                · have heq : (y == z) = false := beq_eq_false_iff_ne.2 hxy
                  rw [heq] at HN
                  clear hxy
                  go_wp2
                  go_quiet (fail)
                  go_wp2
                  go_roundg gi
                  case measure => omega
                  case rel => exact ⟨i + 1, _, false, by omega, by omega, rfl, by first | rfl | go_num, HW.out _, HN.out⟩
            · have HVF : Hid (v = (u || Pl.dupB sv)) := by
                have h : sv.take i = sv := List.take_of_length_le (by rw [HN5.out]; omega)
                rw [h] at HV
                exact HV.out
              have HB56 : Hid (Below V5.heap.size V5 (V5.drewN q)) := ⟨rfl, rfl, rfl, Nat.le_refl _, fun _ _ => rfl⟩
              clear HV HW
              generalize V5.drewN q = V4 at *
              have HX6 := Lib.hid (HX5.out.below HB56.out)
              have HB6 := Lib.hid (below_next HB5.out HB56.out)
              clear HX5 HB5 HB56 HSV
              cases v with
              | true =>
                have HE : Hid (c = (0, 6)) := by
                  rw [← HCK.out]
                  refine Pl.ck_twice HF.out HL6.out HT.out ?_
                  rw [← HU0.out, HSVE.out]
                  have h := HVF.out.symm
                  rwa [Bool.or_eq_true] at h
                go_wp2_with fail
                go_ret2
                exact CheckPost.mk HE.out HB6.out
              | false =>
                have HR12 : Hid (Pl.dupB (Pl.srt (Pl.trs (ros p.rs))) = false ∧ Pl.dupB (Pl.servedS (ros p.rs)) = false) := by
                  rw [← HU0.out, HSVE.out]
                  have h := HVF.out.symm
                  rwa [Bool.or_eq_false_iff] at h
                obtain ⟨rs, hrs⟩ : ∃ s, Pl.restS x.os (ros p.rs) = s := ⟨_, rfl⟩
                have HRS := Lib.hid hrs
                obtain ⟨r3, hr3⟩ : ∃ r, decide (p.us = rs) = r := ⟨_, rfl⟩
                have HR3 := Lib.hid hr3
                obtain ⟨n7, hn7⟩ : ∃ n, rs.length = n := ⟨_, rfl⟩
                have HN7 := Lib.hid hn7
                have HNL : Hid (n7 ≤ 100000) := by
                  have := Pl.restS_len x.os (ros p.rs)
                  rw [hrs, hn7, HX6.out.w.at_.ml] at this
                  have h2 := HX6.out.w.at_.m2
                  unfold Hid; omega
                have HCE : Hid (∀ U : World, Below V4.heap.size V4 U → (U.cell? ⟨b1, 0, none⟩ = some (.int .i64 x.N) ∧ U.cell? ⟨b1, 1, none⟩ = some (.slice x.dA x.dm x.dc) ∧ U.cell? ⟨b1, 2, none⟩ = some (.slice x.tA x.tm x.tc) ∧ U.cell? ⟨b1, 3, none⟩ = some (.slice x.A x.m x.c) ∧ U.cell? ⟨b1, 4, none⟩ = some (.slice x.B x.k x.d) ∧ U.cell? ⟨b2, 0, none⟩ = some (.slice p.rA p.rm p.rc) ∧ U.cell? ⟨b2, 1, none⟩ = some (.slice p.uA p.um p.uc) ∧ Below V4.heap.size V4 U)) := fun U hU => by
                  have h := HX6.out.below hU
                  exact ⟨h.w.c0, h.w.c1, h.w.c2, h.w.c3, h.w.c4, h.p.c0, h.p.c1, hU⟩
                have HC0 : Hid (∀ U : World, (U.cell? ⟨b1, 0, none⟩ = some (.int .i64 x.N) ∧ U.cell? ⟨b1, 1, none⟩ = some (.slice x.dA x.dm x.dc) ∧ U.cell? ⟨b1, 2, none⟩ = some (.slice x.tA x.tm x.tc) ∧ U.cell? ⟨b1, 3, none⟩ = some (.slice x.A x.m x.c) ∧ U.cell? ⟨b1, 4, none⟩ = some (.slice x.B x.k x.d) ∧ U.cell? ⟨b2, 0, none⟩ = some (.slice p.rA p.rm p.rc) ∧ U.cell? ⟨b2, 1, none⟩ = some (.slice p.uA p.um p.uc) ∧ Below V4.heap.size V4 U) → Calls Tryz.prog 54 #[.agg #[.int .i64 x.N, .slice x.dA x.dm x.dc, .slice x.tA x.tm x.tc, .slice x.A x.m x.c, .slice x.B x.k x.d], .agg #[.slice p.rA p.rm p.rc, .slice p.uA p.um p.uc]] U fun e U => ∃ A3 c3, e = .returned (.slice A3 n7 c3) ∧ Hid (IntsAt U A3 rs) ∧ (U.cell? ⟨b1, 0, none⟩ = some (.int .i64 x.N) ∧ U.cell? ⟨b1, 1, none⟩ = some (.slice x.dA x.dm x.dc) ∧ U.cell? ⟨b1, 2, none⟩ = some (.slice x.tA x.tm x.tc) ∧ U.cell? ⟨b1, 3, none⟩ = some (.slice x.A x.m x.c) ∧ U.cell? ⟨b1, 4, none⟩ = some (.slice x.B x.k x.d) ∧ U.cell? ⟨b2, 0, none⟩ = some (.slice p.rA p.rm p.rc) ∧ U.cell? ⟨b2, 1, none⟩ = some (.slice p.uA p.um p.uc) ∧ Below V4.heap.size V4 U)) := by
                  rintro U ⟨_, _, _, _, _, _, _, h⟩
                  refine (drest_b x p U (HX6.out.below h).w.at_ (HX6.out.below h).p.at_).mono ?_
                  rintro e U' ⟨A3, c3, e1, e2, e3⟩
                  rw [HRS.out, HN7.out] at e1
                  rw [HRS.out] at e3
                  exact ⟨A3, c3, e1, e3.out.2.1, HCE.out _ (below_next h e3.out.1)⟩
                have HC1 : Hid (∀ (U : World) (A3 : Option Addr) (c3 : Nat), (U.cell? ⟨b1, 0, none⟩ = some (.int .i64 x.N) ∧ U.cell? ⟨b1, 1, none⟩ = some (.slice x.dA x.dm x.dc) ∧ U.cell? ⟨b1, 2, none⟩ = some (.slice x.tA x.tm x.tc) ∧ U.cell? ⟨b1, 3, none⟩ = some (.slice x.A x.m x.c) ∧ U.cell? ⟨b1, 4, none⟩ = some (.slice x.B x.k x.d) ∧ U.cell? ⟨b2, 0, none⟩ = some (.slice p.rA p.rm p.rc) ∧ U.cell? ⟨b2, 1, none⟩ = some (.slice p.uA p.um p.uc) ∧ Below V4.heap.size V4 U) → Hid (IntsAt U A3 rs) → Calls Tryz.prog 19 #[.slice p.uA p.um p.uc, .slice A3 n7 c3] U fun e U => e = .returned (.bool r3) ∧ (U.cell? ⟨b1, 0, none⟩ = some (.int .i64 x.N) ∧ U.cell? ⟨b1, 1, none⟩ = some (.slice x.dA x.dm x.dc) ∧ U.cell? ⟨b1, 2, none⟩ = some (.slice x.tA x.tm x.tc) ∧ U.cell? ⟨b1, 3, none⟩ = some (.slice x.A x.m x.c) ∧ U.cell? ⟨b1, 4, none⟩ = some (.slice x.B x.k x.d) ∧ U.cell? ⟨b2, 0, none⟩ = some (.slice p.rA p.rm p.rc) ∧ U.cell? ⟨b2, 1, none⟩ = some (.slice p.uA p.um p.uc) ∧ Below V4.heap.size V4 U)) := by
                  rintro U A3 c3 ⟨_, _, _, _, _, _, _, h⟩ hv
                  exact (psame_b p.uA A3 p.um p.uc n7 c3 p.us rs U r3 HR3.out (HX6.out.below h).p.at_.ul HN7.out (by have := (HX6.out.below h).p.at_.u2; omega) HNL.out (HX6.out.below h).p.at_.us hv.out).mono fun _ _ ⟨e1, q, e2⟩ => ⟨e1, HCE.out _ (by subst e2; exact ⟨h.os, h.tape, h.output, h.size, h.block⟩)⟩
                obtain ⟨c0, c1, c2', c3, c4, c5', c6, _⟩ := HCE.out V4 (Below.refl _ _)
                have hB := (Below.refl V4.heap.size V4).drew
                clear HCE hrs hr3 hn7
                go_wp2
                go_region_held3 (fun U : World => (U.cell? ⟨b1, 0, none⟩ = some (.int .i64 x.N) ∧ U.cell? ⟨b1, 1, none⟩ = some (.slice x.dA x.dm x.dc) ∧ U.cell? ⟨b1, 2, none⟩ = some (.slice x.tA x.tm x.tc) ∧ U.cell? ⟨b1, 3, none⟩ = some (.slice x.A x.m x.c) ∧ U.cell? ⟨b1, 4, none⟩ = some (.slice x.B x.k x.d) ∧ U.cell? ⟨b2, 0, none⟩ = some (.slice p.rA p.rm p.rc) ∧ U.cell? ⟨b2, 1, none⟩ = some (.slice p.uA p.um p.uc) ∧ Below V4.heap.size V4 U)) (first | exact ⟨c0, c1, c2', c3, c4, c5', c6, hB⟩ | exact ⟨k0, k1, k2, k3, k4, k5, k6, kb⟩ | assumption)
                  (first
                    | (go_at_call 19; ((with_reducible refine (HC1.out _ _ _ (by assumption) HVO).mono ?_)); rintro e w7 ⟨rfl, k0, k1, k2, k3, k4, k5, k6, kb⟩)
                    | (go_at_call 54; ((with_reducible refine (HC0.out _ (by assumption)).mono ?_)); rintro e w7 ⟨A7, c7, rfl, HVO, k0, k1, k2, k3, k4, k5, k6, kb⟩))
                all_goals
                  have KB := Lib.hid (below_next HB6.out kb)
                  clear k0 k1 k2 k3 k4 k5 k6 kb c0 c1 c2' c3 c4 c5' c6 hB HC0 HC1
                  cases r3 with
                  | false =>
                    have HE : Hid (c = (0, 2)) := by rw [← HCK.out]; exact Pl.ck_form HF.out HL6.out HT.out HR12.out.1 HR12.out.2 (by rw [HRS.out]; exact of_decide_eq_false HR3.out)
                    go_wp2_with fail
                    go_ret2
                    exact CheckPost.mk HE.out KB.out
                  | true =>
                    have HE : Hid (c = (S, 0)) := by rw [← HCK.out, Pl.ck_ok HF.out HL6.out HT.out HR12.out.1 HR12.out.2 (by rw [HRS.out]; exact of_decide_eq_true HR3.out), HS.out]; exact rfl
                    go_wp2_with fail
                    go_ret2
                    exact CheckPost.mk HE.out KB.out
  · have e1 : (f != (0 : Int)) = true := bne_iff_ne.2 hf0
    have HE : Hid (c = (0, f)) := by rw [← HCK.out]; exact Pl.ck_world HF.out hf0
    clear hf0
    go_wp2_with fail
    go_ret2
    exact CheckPost.mk HE.out HB1.out
end Go.Proofs.YtgjmlnpfkmpfgaaGreat
end

section
/-! The document's answer for plans: Less. What a plan's copy may become while its stops are counted up. -/
namespace Go.Proofs.YtgjmlnpfkmpfgaaGreat
open Go.RowKit
set_option linter.unusedVariables false
set_option maxRecDepth 100000

set_option maxHeartbeats 8000000 in
theorem dless_b (x : Wd) (a b : Pd) (w : World) (r : Bool) (hr : Pl.lessB (Pl.checkS x.N x.D x.T x.os x.ts (ros a.rs) a.us) (Pl.checkS x.N x.D x.T x.os x.ts (ros b.rs) b.us) a.um b.um = r) (hx : WAt w x) (ha : PAt w a) (hb : PAt w b) :
    Calls Tryz.prog 29 #[.agg #[.int .i64 x.N, .slice x.dA x.dm x.dc, .slice x.tA x.tm x.tc, .slice x.A x.m x.c, .slice x.B x.k x.d], .agg #[.slice a.rA a.rm a.rc, .slice a.uA a.um a.uc], .agg #[.slice b.rA b.rm b.rc, .slice b.uA b.um b.uc]] w fun e w' => e = .returned (.bool r) ∧ Hid (Below w.heap.size w w') := by
  have HX := Lib.hid (WPP.new hx ha hb)
  have HB0 : Hid (Below w.heap.size w (((w.alloc (.cells #[.int .i64 x.N, .slice x.dA x.dm x.dc, .slice x.tA x.tm x.tc, .slice x.A x.m x.c, .slice x.B x.k x.d] 28)).alloc (.cells #[.slice a.rA a.rm a.rc, .slice a.uA a.um a.uc] 32)).alloc (.cells #[.slice b.rA b.rm b.rc, .slice b.uA b.um b.uc] 32))) := below_more (below_more (below_alloc _ _) _) _
  obtain ⟨ca, hca⟩ : ∃ c, Pl.checkS x.N x.D x.T x.os x.ts (ros a.rs) a.us = c := ⟨_, rfl⟩
  obtain ⟨cb, hcb⟩ : ∃ c, Pl.checkS x.N x.D x.T x.os x.ts (ros b.rs) b.us = c := ⟨_, rfl⟩
  rw [hca, hcb] at hr
  have HR := Lib.hid hr
  have HCA := Lib.hid hca
  have HCB := Lib.hid hcb
  clear hx ha hb hr hca hcb
  go_enter Tryz.func29, Tryz.ntmps29
  have x0 := HX.out.w.c0
  have x1 := HX.out.w.c1
  have x2 := HX.out.w.c2
  have x3 := HX.out.w.c3
  have x4 := HX.out.w.c4
  have y0 := HX.out.a.c0
  have y1 := HX.out.a.c1
  go_wp2_with fail
  clear x0 x1 x2 x3 x4 y0 y1
  generalize (((w.alloc (.cells #[.int .i64 x.N, .slice x.dA x.dm x.dc, .slice x.tA x.tm x.tc, .slice x.A x.m x.c, .slice x.B x.k x.d] 28)).alloc (.cells #[.slice a.rA a.rm a.rc, .slice a.uA a.um a.uc] 32)).alloc (.cells #[.slice b.rA b.rm b.rc, .slice b.uA b.um b.uc] 32)) = V at *
  generalize w.heap.size + 1 + 1 = b3 at *
  generalize w.heap.size + 1 = b2 at *
  generalize hb1 : w.heap.size = b1 at HX ⊢
  clear hb1
  have HC := Lib.hid (dcheck_b x a V ca HCA.out HX.out.w.at_ HX.out.a.at_)
  with_reducible refine HC.out.mono ?_
  rintro e V1 ⟨rfl, hV1⟩
  have HX1 := Lib.hid (HX.out.below hV1.out)
  have HB1 := Lib.hid (below_next HB0.out hV1.out)
  clear HC HX HB0 hV1 HCA
  have x0 := HX1.out.w.c0
  have x1 := HX1.out.w.c1
  have x2 := HX1.out.w.c2
  have x3 := HX1.out.w.c3
  have x4 := HX1.out.w.c4
  have y0 := HX1.out.b.c0
  have y1 := HX1.out.b.c1
  go_wp2_with fail
  clear x0 x1 x2 x3 x4 y0 y1
  have HC := Lib.hid (dcheck_b x b V1 cb HCB.out HX1.out.w.at_ HX1.out.b.at_)
  with_reducible refine HC.out.mono ?_
  rintro e V2 ⟨rfl, hV2⟩
  have HX2 := Lib.hid (HX1.out.below hV2.out)
  have HB2 := Lib.hid (below_next HB1.out hV2.out)
  clear HC HX1 HB1 hV2 HCB
  obtain ⟨cost1, er1⟩ := ca
  obtain ⟨cost2, er2⟩ := cb
  by_cases he1 : er1 = 0
  · by_cases he2 : er2 = 0
    · subst he1 he2
      have e0 : ((0 : Int) != (0 : Int)) = false := by decide
      have u1 := HX2.out.a.c1
      have v1 := HX2.out.b.c1
      have HLA : Hid (a.um ≤ 1000 ∧ b.um ≤ 1000) := ⟨HX2.out.a.at_.u2, HX2.out.b.at_.u2⟩
      by_cases hm : a.um < b.um
      ·
        have d1 : decide ((a.um : Int) < (b.um : Int)) = true := decide_eq_true (by omega)
        have d1n : decide (a.um < b.um) = true := decide_eq_true hm
        have HF : Hid (r = true) := by
          rw [← HR.out]
          exact decide_eq_true ⟨rfl, rfl, .inl hm⟩
        go_wp2_with fail
        go_ret
        exact ⟨by rw [HF.out]; rfl, HB2.out⟩
      · by_cases hq : a.um = b.um
        · by_cases hc : cost1 < cost2
          ·
            have d1 : decide ((a.um : Int) < (b.um : Int)) = false := decide_eq_false (by omega)
            have d1n : decide (a.um < b.um) = false := decide_eq_false hm
            have d2 : ((a.um : Int) == (b.um : Int)) = true := by rw [hq]; simp
            have d2n : (a.um == b.um) = true := by rw [hq]; simp
            have d3 : decide (cost1 < cost2) = true := decide_eq_true hc
            have HF : Hid (r = true) := by
              rw [← HR.out]
              exact decide_eq_true ⟨rfl, rfl, .inr ⟨hq, hc⟩⟩
            go_wp2_with fail
            go_ret
            exact ⟨by rw [HF.out]; rfl, HB2.out⟩
          ·
            have d1 : decide ((a.um : Int) < (b.um : Int)) = false := decide_eq_false (by omega)
            have d1n : decide (a.um < b.um) = false := decide_eq_false hm
            have d2 : ((a.um : Int) == (b.um : Int)) = true := by rw [hq]; simp
            have d2n : (a.um == b.um) = true := by rw [hq]; simp
            have d3 : decide (cost1 < cost2) = false := decide_eq_false hc
            have HF : Hid (r = false) := by
              rw [← HR.out]
              exact decide_eq_false fun e => e.2.2.elim hm fun e2 => hc e2.2
            go_wp2_with fail
            go_ret
            exact ⟨by rw [HF.out]; rfl, HB2.out⟩
        ·
          have d1 : decide ((a.um : Int) < (b.um : Int)) = false := decide_eq_false (by omega)
          have d1n : decide (a.um < b.um) = false := decide_eq_false hm
          have d2 : ((a.um : Int) == (b.um : Int)) = false := beq_eq_false_iff_ne.2 (by omega)
          have d2n : (a.um == b.um) = false := beq_eq_false_iff_ne.2 hq
          have HF : Hid (r = false) := by
            rw [← HR.out]
            exact decide_eq_false fun e => e.2.2.elim hm fun e2 => hq e2.1
          go_wp2_with fail
          go_ret
          exact ⟨by rw [HF.out]; rfl, HB2.out⟩
    · have e1 : (er1 != (0 : Int)) = false := by rw [he1]; decide
      have e2 : (er2 != (0 : Int)) = true := bne_iff_ne.2 he2
      have HF : Hid (r = false) := by rw [← HR.out]; exact Pl.less_no2 he2
      clear he1 he2
      go_wp2_with fail
      go_ret
      exact ⟨by rw [HF.out]; rfl, HB2.out⟩
  · have e1 : (er1 != (0 : Int)) = true := bne_iff_ne.2 he1
    have HF : Hid (r = false) := by rw [← HR.out]; exact Pl.less_no1 he1
    clear he1
    go_wp2_with fail
    go_ret
    exact ⟨by rw [HF.out]; rfl, HB2.out⟩

/-- a copy, its stops counted up: its box and its routes stay, its stops hold some numbers -/
structure Bump (V : World) (h bq : Nat) (q : Pd) (W : World) : Prop where
  bel : Below V.heap.size V W
  box : Box W bq q.cells 32
  rows : RowsR W q.rA q.rs
  st : ∀ r ∈ q.rs, ∀ j, j < r.sm → ∃ ad z, r.sA = some ad ∧ h ≤ ad.block ∧ ad.block < bq ∧ W.cell? (ad.add j) = some (.int .i64 z) ∧ W.frozen? (ad.add j) = false
theorem add_block (ad : Addr) (j : Nat) : (ad.add j).block = ad.block := by unfold Addr.add; split <;> rfl
theorem rows_other {W W' : World} {A : Option Addr} {l : List Rd} (h : RowsR W A l) (hb : ∀ ad, A = some ad → W'.heap[ad.block]? = W.heap[ad.block]?) : RowsR W' A l := fun k r hr => by
  obtain ⟨ad, e, h1, h2⟩ := h k r hr
  exact ⟨ad, e, by rw [World.cell?_of_block (w := W) (w' := W') (by rw [add_block]; exact hb ad e)]; exact h1, by rw [World.cell?_of_block (w := W) (w' := W') (by show W'.heap[(ad.add (k * 2)).block]? = W.heap[(ad.add (k * 2)).block]?; rw [add_block]; exact hb ad e)]; exact h2⟩
theorem Bump.set {V W : World} {h bq : Nat} {q : Pd} (H : Bump V h bq q W) (hh : V.heap.size ≤ h) (hq : ∀ ad, q.rA = some ad → ad.block < h) (ad : Addr) (j : Nat) (h1 : h ≤ ad.block) (h2 : ad.block < bq) (y : Int) : Bump V h bq q (W.setCell (ad.add j) (.int .i64 y)) := by
  have hblk := add_block ad j
  refine ⟨H.bel.setCell (p := ad.add j) (by rw [hblk]; omega) _, (Go.Deep.blk_setCell_other _ _ _ _ (by rw [hblk]; omega)).trans H.box, rows_other H.rows fun ad' e => Go.Deep.blk_setCell_other _ _ _ _ (by rw [hblk]; have := hq ad' e; omega), fun r hr k hk => ?_⟩
  obtain ⟨ad2, z, e, l1, l2, c, f⟩ := H.st r hr k hk
  by_cases e2 : ad.add j = ad2.add k
  · exact ⟨ad2, y, e, l1, l2, by rw [e2]; exact World.cell?_setCell_same W _ _ c, by rw [World.frozen?_setCell]; exact f⟩
  · exact ⟨ad2, z, e, l1, l2, by rw [World.cell?_setCell_other W _ _ _ e2]; exact c, by rw [World.frozen?_setCell]; exact f⟩
theorem Bump.start {V W U : World} {a q : Pd} (h : CopiedP V W a q) (hU : Below W.heap.size W U) (hb : Box U W.heap.size q.cells 32) : ∃ g, V.heap.size ≤ g ∧ (∀ ad, q.rA = some ad → ad.block < g) ∧ Bump V g W.heap.size q U := by
  obtain ⟨g, hg, _, hq, ho⟩ := h.own
  refine ⟨g, hg, hq, below_next h.bel hU, hb, h.at_.rows.below hU, fun r hr j hj => ?_⟩
  have hst := h.at_.ra r hr
  have hown := ho r hr
  rcases hown.2 with ⟨e, h0⟩ | ⟨b, cap, cur, hv, hgb, hh, _⟩
  · injection e with e1 e2 e3
    omega
  · injection hv with e1 e2 e3
    obtain ⟨z, hz⟩ := mlist_at r.st j (by rw [hst.sl]; exact hj)
    obtain ⟨ad, e4, hc⟩ := hst.st j z hz
    obtain rfl : ad = ⟨b, 0, none⟩ := by rw [e1] at e4; exact (Option.some.inj e4).symm
    have hlt : b < W.heap.size := (Array.getElem?_eq_some_iff.1 hh).1
    refine ⟨⟨b, 0, none⟩, z, e1, hgb, hlt, (hU.cell (p := Addr.add ⟨b, 0, none⟩ j) (by rw [add_block]; exact hlt)).trans hc, (hU.frozen (p := Addr.add ⟨b, 0, none⟩ j) (by rw [add_block]; exact hlt)).trans ?_⟩
    unfold World.frozen?
    rw [add_block, show W.heap[(⟨b, 0, none⟩ : Addr).block]? = _ from hh]
    simp
end Go.Proofs.YtgjmlnpfkmpfgaaGreat
end
