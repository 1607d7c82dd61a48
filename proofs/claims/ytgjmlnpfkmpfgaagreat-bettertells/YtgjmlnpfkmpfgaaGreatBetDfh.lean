/- Texts joined: The document's answer for better: moves that put a stop elsewhere, or turn some round. The document's answer for better: ends that change routes. -/
import Derived.Test.YtgjmlnpfkmpfgaaGreatBetDdi
import Derived.RegionTactic
import Derived.BigRegion
import Derived.BigQuiet
section
/-! The document's answer for better: moves that put a stop elsewhere, or turn some round. -/
namespace Go.Proofs.YtgjmlnpfkmpfgaaGreat
open Go.RowKit
set_option linter.unusedVariables false
set_option maxRecDepth 100000

theorem agr_size {lo : Nat} {Wr U : World} (h : Agr lo none Wr U) (hl : lo < Wr.heap.size) : Wr.heap.size ≤ U.heap.size := by
  have h1 := h (Wr.heap.size - 1) (by omega) (by omega) (by simp)
  rw [Array.getElem?_eq_getElem (show Wr.heap.size - 1 < Wr.heap.size by omega)] at h1
  have := (Array.getElem?_eq_some_iff.1 h1).1
  omega
theorem QLs.later {W U : World} {lo : Nat} {v : Value} {l : List Rd} (h : QLs W lo v l) (ha : Agr lo none W U) (hs : W.heap.size ≤ U.heap.size) : QLs U lo v l :=
  ⟨h.own.put fun k h1 h2 => ha k h1 h2 (by simp), fun r hr => (h.st r hr).step (fun k h1 h2 _ => ha k h1 h2 (by simp)) (fun k h1 _ h2 => ⟨h1, h2⟩) hs, h.cp⟩
theorem kr_step {lo : Nat} {Wr U W7 w2 : World} {v v' : Value} (h : Agr lo none Wr U) (hs : Wr.heap.size ≤ U.heap.size) (ho : ∀ k, v.ownBlock = some k → k < lo ∨ Wr.heap.size ≤ k) (hb : Below U.heap.size U W7) (hn : Nw W7 w2 v v') : Agr lo none Wr w2 ∧ ∀ k, v'.ownBlock = some k → k < lo ∨ Wr.heap.size ≤ k := by
  have hsz := hb.size
  refine ⟨fun k h1 h2 h3 => ((hn.1 k (by omega) fun e => ?_).trans (hb.block k (by omega))).trans (h k h1 h2 h3), fun k e => ?_⟩
  · rcases ho k e with h4 | h4 <;> omega
  · rcases hn.2 with h4 | ⟨K, h4, h5⟩
    · exact ho k (h4.symm.trans e)
    · rw [h4] at e
      injection e with e
      exact .inr (by omega)
theorem wrap_sum {a b : Nat} (h : a + b < 100000) : IntKind.i64.wrap ((a : Int) + (b : Int)) = (a : Int) + (b : Int) := by rw [IntKind.wrap_i64]; omega
theorem wrap_dif {a b k e : Nat} (h : a + b < 100000) (hk : k ≤ a + b) (he : a + b - k = e) : IntKind.i64.wrap ((a : Int) + (b : Int) - (k : Int)) = (e : Int) := by rw [IntKind.wrap_i64]; omega
theorem TU.at_ {lo g n c i : Nat} {rl : List Rd} {r : Rd} {st : List Int} {U : World} (h : TU lo g n c rl i r st U) (hr : rl[i]? = some r) : U.cell? ⟨g, i * 2 + 1, none⟩ = some (.slice r.sA r.sm r.sc) := by
  obtain ⟨A', c', e, _, _, h2, _⟩ := h.own.row
  injection e with e1 e2 e3
  obtain ⟨ad, e, _, c1⟩ := h2 i r hr
  rw [← e1] at e
  obtain rfl := Option.some.inj e
  rw [add_flat, Nat.zero_add] at c1
  exact c1
theorem TU.cell {lo g n c i k gs : Nat} {rl : List Rd} {r : Rd} {st : List Int} {U : World} (h : TU lo g n c rl i r st U) (hA : r.sA = some ⟨gs, 0, none⟩) (hk : k < st.length) : ∃ z, U.cell? ⟨gs, k, none⟩ = some z ∧ U.frozen? ⟨gs, k, none⟩ = false := by
  have ho := h.one
  rw [hA] at ho
  obtain ⟨z, hz⟩ := mlist_at st k hk
  obtain ⟨A', c', e, _, _, h1⟩ := ho.ints
  injection e with e1 e2 e3
  rw [← e1] at h1
  obtain ⟨ad, e, hc⟩ := h1 k z hz
  obtain rfl := Option.some.inj e
  rw [add_flat, Nat.zero_add] at hc
  refine ⟨_, hc, ?_⟩
  rcases ho.2 with ⟨e4, _⟩ | ⟨gg, cap, cur, e4, hg, hh, _⟩
  · cases e4
  · injection e4 with e4 _ _
    obtain rfl : gs = gg := by injection e4 with e4; injection e4 with e4
    unfold World.frozen?; rw [hh]; simp
theorem TU.drew {lo g n c i : Nat} {rl : List Rd} {r : Rd} {st : List Int} {U : World} (h : TU lo g n c rl i r st U) : TU lo g n c rl i r st U.drew :=
  ⟨h.own.below (Below.refl _ _).drew, fun j s hj hs => (h.ow j s hj hs).below (Below.refl _ _).drew, h.one.below (Below.refl _ _).drew, h.cp⟩
set_option maxHeartbeats 16000000 in
theorem dmoved_b (x : Wd) (p : Pd) (w : World) (hx : WAt w x) (hp : PAt w p) (hsm : Bt.Sm (ros p.rs)) :
    Calls Tryz.prog 26 #[.agg #[.int .i64 x.N, .slice x.dA x.dm x.dc, .slice x.tA x.tm x.tc, .slice x.A x.m x.c, .slice x.B x.k x.d], .agg #[.slice p.rA p.rm p.rc, .slice p.uA p.um p.uc]] w (MovPost w x (Bt.movedL (ros p.rs))) := by
  obtain ⟨ps, hps⟩ : ∃ ps, ros p.rs = ps := ⟨_, rfl⟩
  have HPS := Lib.hid hps
  rw [hps] at hsm ⊢
  have HSM := Lib.hid hsm
  have HPL : Hid (ps.length = p.rm) := by unfold Hid; rw [← hps, ros_len, hp.rl]
  have hrm : p.rm ≤ 6 := by rw [← HPL.out]; exact hsm.n6
  have HMV0 : Hid (MV w w.heap.size x p [] (some ⟨w.heap.size + 1 + 1, 0, none⟩) 0 0 [] (((w.alloc (.cells #[.int .i64 x.N, .slice x.dA x.dm x.dc, .slice x.tA x.tm x.tc, .slice x.A x.m x.c, .slice x.B x.k x.d] 28)).alloc (.cells #[.slice p.rA p.rm p.rc, .slice p.uA p.um p.uc] 32)).alloc (.cells #[] 32))) := by
    have e1 : (w.alloc (.cells #[.int .i64 x.N, .slice x.dA x.dm x.dc, .slice x.tA x.tm x.tc, .slice x.A x.m x.c, .slice x.B x.k x.d] 28)).heap.size = w.heap.size + 1 := by simp
    have e2 : ((w.alloc (.cells #[.int .i64 x.N, .slice x.dA x.dm x.dc, .slice x.tA x.tm x.tc, .slice x.A x.m x.c, .slice x.B x.k x.d] 28)).alloc (.cells #[.slice p.rA p.rm p.rc, .slice p.uA p.um p.uc] 32)).heap.size = w.heap.size + 1 + 1 := by simp
    refine ⟨hx, hp, rfl, below_more (below_more (below_alloc _ _) _) _, ((Box.new w _ _).below (below_alloc _ _)).below (below_alloc _ _), ?_, ?_, ?_, rfl, rfl, (fun q h => by cases h), (fun q h => by cases h)⟩
    · rw [← e1]; exact (Box.new _ _ _).below (below_alloc _ _)
    · rw [show w.heap.size + 2 = w.heap.size + 1 + 1 from rfl, ← e2]; exact (below_alloc _ _).size
    · rw [show w.heap.size + 2 = w.heap.size + 1 + 1 from rfl, ← e2]; exact PLs.new0 _
  clear hx hp hsm hps
  go_enter Tryz.func26, Tryz.ntmps26
  go_wp2_with fail
  generalize (((w.alloc (.cells #[.int .i64 x.N, .slice x.dA x.dm x.dc, .slice x.tA x.tm x.tc, .slice x.A x.m x.c, .slice x.B x.k x.d] 28)).alloc (.cells #[.slice p.rA p.rm p.rc, .slice p.uA p.um p.uc] 32)).alloc (.cells #[] 32)) = V at *
  generalize hb1 : w.heap.size = b1 at HMV0 ⊢
  clear hb1
  go_loopg [5, 6] p.rm (fun gk s5 s6 Wx => ∃ (i : Nat) (A : Option Addr) (m c : Nat) (l : List Pd) (W : World), W = Wx ∧ i + gk = p.rm ∧ s5 = .slice A m c ∧ s6 = .int .i64 i ∧ Hid (MV w b1 x p (Bt.mov4 ps i) A m c l W))
  case atStart => exact ⟨0, _, 0, 0, [], _, rfl, by omega, rfl, rfl, HMV0.out⟩
  case round =>
    clear HMV0
    obtain ⟨i, A, m, c, l, W, rfl, hig, rfl, rfl, HMV⟩ := hrel
    have d0 := HMV.out.d0
    by_cases hlt : i < p.rm
    · obtain ⟨gu, rfl⟩ : ∃ j, gk = j + 1 := ⟨gk - 1, by omega⟩
      obtain ⟨r, hr⟩ := mlist_at p.rs i (by rw [HMV.out.p0.rl]; exact hlt)
      have HRR := Lib.hid hr
      have HRS : Hid (r.st.length = r.sm) := (HMV.out.p0.ra r (List.mem_of_getElem? hr)).sl
      have HST : Hid (Bt.stAt ps i = r.st) := by unfold Hid; rw [← HPS.out]; exact Bt.stAt_at (ros_at hr)
      have hr12 : r.sm ≤ 12 := by
        have h1 := HSM.out.s12 i
        rw [HST.out, HRS.out] at h1
        exact h1
      have i2 : (i : Int) < (p.rm : Int) := by omega
      clear hr
      go_wp2_with fail
      clear d0
      go_loopg [5, 7] r.sm (fun gk s5 s7 Wx => ∃ (f : Nat) (A : Option Addr) (m c : Nat) (l : List Pd) (W : World), W = Wx ∧ f + gk = r.sm ∧ s5 = .slice A m c ∧ s7 = .int .i64 f ∧ Hid (MV w b1 x p (Bt.mov4 ps i ++ Bt.mov3 ps i f) A m c l W))
      case atStart => exact ⟨0, A, m, c, l, _, rfl, by omega, rfl, rfl, by rw [show Bt.mov3 ps i 0 = [] from rfl, List.append_nil]; exact HMV.out⟩
      case round =>
        clear HMV
        obtain ⟨f, A, m, c, l, W, rfl, hfg, rfl, rfl, HMV⟩ := hrel
        have d0 := HMV.out.d0
        obtain ⟨ad, hA, ⟨_, c1⟩, _⟩ := HMV.out.pat.at_ HRR.out
        rw [hA] at d0
        clear hA
        by_cases hf : f < r.sm
        · obtain ⟨gi, rfl⟩ : ∃ j, gk = j + 1 := ⟨gk - 1, by omega⟩
          obtain ⟨xx, hxx⟩ := mlist_at r.st f (by rw [HRS.out]; exact hf)
          have HXR := Lib.hid hxx
          have HXX : Hid ((Bt.stAt ps i).getD f 0 = xx) := by unfold Hid; rw [HST.out, List.getD_eq_getElem?_getD, hxx]; rfl
          have i3 : (f : Int) < (r.sm : Int) := by omega
          obtain ⟨ps2, hps2⟩ : ∃ ps2, Bt.setSt ps i (Bt.out (Bt.stAt ps i) f) = ps2 := ⟨_, rfl⟩
          have HPS2 := Lib.hid hps2
          clear hxx hps2
          go_wp2_with fail
          clear d0 c1
          go_loopg [5, 8] p.rm (fun gk s5 s8 Wx => ∃ (k : Nat) (A : Option Addr) (m c : Nat) (l : List Pd) (W : World), W = Wx ∧ k + gk = p.rm ∧ s5 = .slice A m c ∧ s8 = .int .i64 k ∧ Hid (MV w b1 x p (Bt.mov4 ps i ++ Bt.mov3 ps i f ++ Bt.mov2 ps i f k) A m c l W))
          case atStart => exact ⟨0, A, m, c, l, _, rfl, by omega, rfl, rfl, by rw [show Bt.mov2 ps i f 0 = [] from rfl, List.append_nil]; exact HMV.out⟩
          case round =>
            clear HMV
            obtain ⟨k, A, m, c, l, W, rfl, hkg, rfl, rfl, HMV⟩ := hrel
            have d0 := HMV.out.d0
            by_cases hk : k < p.rm
            · obtain ⟨gl, rfl⟩ : ∃ j, gk = j + 1 := ⟨gk - 1, by omega⟩
              have k2 : (k : Int) < (p.rm : Int) := by omega
              have HC : Hid (Calls Tryz.prog 55 #[.slice p.rA p.rm p.rc] W (CopPost W p.rs p.rm)) := dcopied_b p.rA p.rm p.rc p.rs W HMV.out.p0.rl (by omega) HMV.out.pat.rows HMV.out.pat.ra
              go_wp2_with fail
              clear d0
              with_reducible refine HC.out.mono ?_
              rintro e W3 ⟨R, rc, rl, rfl, HCI⟩
              have HRO : Hid (ros rl = ps) := by unfold Hid; rw [HCI.out.eq, List.take_of_length_le (by rw [ros_len, HMV.out.p0.rl]; exact Nat.le_refl _)]; exact HPS.out
              obtain ⟨r', hr'⟩ := mlist_at rl i (by rw [HCI.out.len]; exact hlt)
              have HR' := Lib.hid hr'
              have HRE : Hid (r'.st = r.st ∧ r'.sm = r.sm) := by
                have h1 := ros_at hr'
                rw [HRO.out, ← HPS.out, ros_at HRR.out] at h1
                have h3 : r.st = r'.st := congrArg Pl.Ro.st (Option.some.inj h1)
                refine ⟨h3.symm, ?_⟩
                have h4 := ((HCI.out.q.free r' (List.mem_of_getElem? hr')).now).sl
                rw [← h4, ← h3]
                exact HRS.out
              obtain ⟨g, hR, hg1, hg2, q0, q1, q2⟩ := HCI.out.q.at_ hr'
              obtain rfl := hR
              have HG : Hid (W.heap.size ≤ g ∧ g < W3.heap.size) := ⟨hg1, hg2⟩
              have hf' : (f : Int) < (r'.sm : Int) := by have := HRE.out.2; omega
              obtain ⟨sa, hSA, hcs⟩ := ((HCI.out.q.free r' (List.mem_of_getElem? hr')).now).st f xx (by rw [HRE.out.1]; exact HXR.out)
              have HOUT : Hid (Calls Tryz.prog 58 #[.slice r'.sA r'.sm r'.sc, .int .i64 (f : Int)] W3 fun e w5 => ∃ A5 c5, e = .returned (.slice A5 (r'.sm - 1) c5) ∧ w5.cell? ⟨g, i * 2 + 1, none⟩ = some (.slice r'.sA r'.sm r'.sc) ∧ w5.frozen? ⟨g, i * 2 + 1, none⟩ = false ∧ Hid (Below W3.heap.size W3 w5 ∧ (Bt.out r'.st f).length = r'.sm - 1 ∧ r'.sm - 1 ≤ c5 ∧ IntsAt w5 A5 (Bt.out r'.st f) ∧ ∀ ad, A5 = some ad → W3.heap.size ≤ ad.block)) := by
                have h1 := (HCI.out.q.free r' (List.mem_of_getElem? HR'.out)).now
                have h0 := HRE.out.2
                refine (dout_b r'.sA r'.sm r'.sc f r'.st W3 h1.sl (HCI.out.q.cp r' (List.mem_of_getElem? HR'.out)) (by omega) (by have := h1.s2; omega) h1.st).mono ?_
                rintro e w5 ⟨A5, c5, rfl, h5⟩
                obtain ⟨g1, g2, g3', g4, g5⟩ := h5.out
                exact ⟨A5, c5, rfl, by rw [g3'.cell (p := ⟨g, i * 2 + 1, none⟩) HG.out.2]; exact q1, by rw [g3'.frozen (p := ⟨g, i * 2 + 1, none⟩) HG.out.2]; exact q2, g3', g1, g2, g4, fun ad e => g5 ad e⟩
              have HSAE := Lib.hid hSA
              clear hr' hg1 hg2 q0 q2
              rw [hSA] at q1 HOUT
              clear hSA
              go_wp2_with fail
              clear q1 hcs
              with_reducible refine HOUT.out.mono ?_
              rintro e w5 ⟨A5, c5, rfl, s1, s2, h5⟩
              have HBR : Hid (Below W.heap.size W (w5.setCell ⟨g, i * 2 + 1, none⟩ (.slice A5 (r'.sm - 1) c5))) := (below_next HCI.out.bel h5.out.1).setCell (p := ⟨g, i * 2 + 1, none⟩) HG.out.1 _
              have HQ2 := Lib.hid (HCI.out.q.set HR'.out HCI.out.bel.size HG.out.2 h5.out.1 h5.out.2.1 (by have := HRE.out.2; omega) h5.out.2.2.1 h5.out.2.2.2.1 h5.out.2.2.2.2)
              have HLO0 : Hid (W.heap.size < (w5.setCell ⟨g, i * 2 + 1, none⟩ (.slice A5 (r'.sm - 1) c5)).heap.size) := by
                have h1 := HG.out
                have h2 := h5.out.1.size
                unfold Hid
                rw [Go.Deep.nblk_setCell]
                omega
              have HM2 := Lib.hid (HMV.out.below HBR.out)
              have HOW0 : Hid (∀ q, (Value.slice A m c).ownBlock = some q → q < W.heap.size) := fun q e => (HMV.out.ls.own.lt q e).2
              obtain ⟨rl2, hrl2⟩ : ∃ l, rl.set i ⟨r'.tr, A5, r'.sm - 1, c5, Bt.out r'.st f⟩ = l := ⟨_, rfl⟩
              have HR2 : Hid (ros rl2 = ps2) := by
                unfold Hid
                rw [← hrl2, ros_set HR'.out, HRO.out, HRE.out.1, ← HST.out]
                exact HPS2.out
              have HL2 : Hid (rl2.length = p.rm) := by unfold Hid; rw [← hrl2, List.length_set]; exact HCI.out.len
              rw [hrl2] at HQ2
              obtain ⟨s, hs⟩ := mlist_at rl2 k (by rw [HL2.out]; exact hk)
              have HS := Lib.hid hs
              have HST2 : Hid (Bt.stAt ps2 k = s.st) := by unfold Hid; rw [← HR2.out]; exact Bt.stAt_at (ros_at hs)
              have hol := Bt.out_len (Bt.stAt ps i) f
              have hs12 := HSM.out.s12 i
              have HFW2 : Hid (∀ t ∈ ps2, t.st.length ≤ 24) := fun t ht => by
                rw [← HPS2.out] at ht
                exact (Bt.few_set (by have := HSM.out.n6; omega) (fun s hs => by have := HSM.out.at_ s hs; omega) i (by omega)).2 t ht
              have hs13 : s.sm ≤ 12 := by
                rw [← ((HQ2.out.free s (List.mem_of_getElem? hs)).now).sl, ← HST2.out, ← HPS2.out, Bt.stAt_set]
                split
                · omega
                · exact HSM.out.s12 k
              clear hrl2 hs h5 hol hs12 HSAE
              go_wp2_with fail
              clear s1 s2
              generalize w5.setCell ⟨g, i * 2 + 1, none⟩ (.slice A5 (r'.sm - 1) c5) = Wr at *
              obtain ⟨lo, hlo⟩ : ∃ lo, W.heap.size = lo := ⟨_, rfl⟩
              rw [hlo] at HLO0 HQ2 HOW0
              have HLO : Hid (lo < Wr.heap.size) := HLO0.out
              clear HMV HBR HLO0 HCI HOUT hlo
              go_loopg [5, 11] (s.sm + 1) (fun gk s5 s11 Wx => ∃ (a : Nat) (A : Option Addr) (m c : Nat) (l : List Pd) (W : World), W = Wx ∧ a + gk = (s.sm + 1) ∧ s5 = .slice A m c ∧ s11 = .int .i64 a ∧ Hid (MV w b1 x p (Bt.mov4 ps i ++ Bt.mov3 ps i f ++ Bt.mov2 ps i f k ++ Bt.mov1 ps2 xx k a) A m c l W) ∧ Hid (Agr lo none Wr W) ∧ Hid (∀ q, (Value.slice A m c).ownBlock = some q → q < lo ∨ Wr.heap.size ≤ q))
              case atStart => exact ⟨0, A, m, c, l, _, rfl, by omega, rfl, rfl, by rw [show Bt.mov1 ps2 xx k 0 = [] from rfl, List.append_nil]; exact HM2.out, (fun _ _ _ _ => rfl), fun q e => .inl (HOW0.out q e)⟩
              case round =>
                clear HM2 HOW0
                obtain ⟨a, A, m, c, l, U, rfl, hag, rfl, rfl, HMV, HAG, HOWN⟩ := hrel
                have HSZ : Hid (Wr.heap.size ≤ U.heap.size) := agr_size HAG.out HLO.out
                have HQU := Lib.hid (HQ2.out.later HAG.out HSZ.out)
                obtain ⟨g', hg', _, _, _, q1, _⟩ := HQU.out.at_ HS.out
                obtain rfl : g = g' := by injection hg' with h; injection h
                by_cases ha : a ≤ s.sm
                · obtain ⟨gt, rfl⟩ : ∃ j, gk = j + 1 := ⟨gk - 1, by omega⟩
                  have j1 : decide ((a : Int) ≤ (s.sm : Int)) = true := decide_eq_true (by omega)
                  have HC : Hid (Calls Tryz.prog 55 #[.slice (some ⟨g, 0, none⟩) p.rm rc] U (CopPost U rl2 p.rm)) := dcopied_b (some ⟨g, 0, none⟩) p.rm rc rl2 U HL2.out (by omega) HQU.out.rows (fun r hr => (HQU.out.free r hr).now)
                  have HLEN : Hid ((Bt.mov4 ps i ++ Bt.mov3 ps i f ++ Bt.mov2 ps i f k ++ Bt.mov1 ps2 xx k a).length ≤ 50000) := by
                    unfold Hid
                    rw [List.length_append, List.length_append, List.length_append, Bt.mov1_len]
                    have h1 := Bt.mov4_len HSM.out (m := i) (by omega)
                    have h2 := Bt.mov3_len HSM.out i (n := f) (by omega)
                    have h3 := Bt.mov2_len HSM.out i f (m := k) (by omega)
                    omega
                  clear hg'
                  go_wp2_with fail
                  clear q1
                  with_reducible refine HC.out.mono ?_
                  rintro e W3 ⟨R, rc3, rl3, rfl, HCI⟩
                  have HRO : Hid (ros rl3 = ps2) := by unfold Hid; rw [HCI.out.eq, List.take_of_length_le (by rw [ros_len, HL2.out]; exact Nat.le_refl _)]; exact HR2.out
                  obtain ⟨s', hs'⟩ := mlist_at rl3 k (by rw [HCI.out.len]; exact hk)
                  have HS' := Lib.hid hs'
                  have HSE : Hid (s'.st = s.st ∧ s'.sm = s.sm) := by
                    have h1 := ros_at hs'
                    rw [HRO.out, ← HR2.out, ros_at HS.out] at h1
                    have h3 : s.st = s'.st := congrArg Pl.Ro.st (Option.some.inj h1)
                    refine ⟨h3.symm, ?_⟩
                    have h4 := ((HCI.out.q.free s' (List.mem_of_getElem? hs')).now).sl
                    have h5 := ((HQU.out.free s (List.mem_of_getElem? HS.out)).now).sl
                    rw [← h4, ← h3]
                    exact h5
                  obtain ⟨g3, hR, hg1, hg2, q0, q1, q2⟩ := HCI.out.q.at_ hs'
                  obtain rfl := hR
                  have HG : Hid (U.heap.size ≤ g3 ∧ g3 < W3.heap.size) := ⟨hg1, hg2⟩
                  have HPUT : Hid (Calls Tryz.prog 56 #[.slice s'.sA s'.sm s'.sc, .int .i64 (a : Int), .int .i64 xx] W3 fun e w5 => ∃ A5 c5, e = .returned (.slice A5 (s'.sm + 1) c5) ∧ w5.cell? ⟨g3, k * 2 + 1, none⟩ = some (.slice s'.sA s'.sm s'.sc) ∧ w5.frozen? ⟨g3, k * 2 + 1, none⟩ = false ∧ Hid (Below W3.heap.size W3 w5 ∧ (Bt.put s'.st a xx).length = s'.sm + 1 ∧ s'.sm + 1 ≤ c5 ∧ IntsAt w5 A5 (Bt.put s'.st a xx) ∧ ∀ ad, A5 = some ad → W3.heap.size ≤ ad.block)) := by
                    have h1 := (HCI.out.q.free s' (List.mem_of_getElem? HS'.out)).now
                    have h0 := HSE.out.2
                    refine (dput_b s'.sA s'.sm s'.sc a s'.st xx W3 h1.sl (HCI.out.q.cp s' (List.mem_of_getElem? HS'.out)) (by omega) (by have := h1.s2; omega) h1.st).mono ?_
                    rintro e w5 ⟨A5, c5, rfl, h5⟩
                    obtain ⟨g1, g2, g3', g4, g5⟩ := h5.out
                    exact ⟨A5, c5, rfl, by rw [g3'.cell (p := ⟨g3, k * 2 + 1, none⟩) HG.out.2]; exact q1, by rw [g3'.frozen (p := ⟨g3, k * 2 + 1, none⟩) HG.out.2]; exact q2, g3', g1, g2, g4, fun ad e => g5 ad e⟩
                  clear hs' hg1 hg2 q0 q2
                  go_wp2_with fail
                  clear q1
                  with_reducible refine HPUT.out.mono ?_
                  rintro e w5 ⟨A5, c5, rfl, s1, s2, h5⟩
                  have HB6 : Hid (Below U.heap.size U (w5.setCell ⟨g3, k * 2 + 1, none⟩ (.slice A5 (s'.sm + 1) c5))) := (below_next HCI.out.bel h5.out.1).setCell (p := ⟨g3, k * 2 + 1, none⟩) HG.out.1 _
                  have HQ6 := Lib.hid (HCI.out.q.set HS'.out HCI.out.bel.size HG.out.2 h5.out.1 h5.out.2.1 (by have := HSE.out.2; omega) h5.out.2.2.1 h5.out.2.2.2.1 h5.out.2.2.2.2)
                  have HRO6 : Hid (ros (rl3.set k ⟨s'.tr, A5, s'.sm + 1, c5, Bt.put s'.st a xx⟩) = Bt.setSt ps2 k (Bt.put (Bt.stAt ps2 k) a xx)) := by
                    unfold Hid
                    rw [ros_set HS'.out, HRO.out, HST2.out, HSE.out.1]
                  have HL6 : Hid ((Bt.put (Bt.stAt ps2 k) a xx).length ≤ 24) := by
                    unfold Hid
                    rw [HST2.out, ← HSE.out.1, h5.out.2.1, HSE.out.2]
                    omega
                  have HM6 := Lib.hid (HMV.out.below HB6.out)
                  have HC3 := Lib.hid (dmade_b x (some ⟨g3, 0, none⟩) p.rm rc3 (rl3.set k ⟨s'.tr, A5, s'.sm + 1, c5, Bt.put s'.st a xx⟩) (w5.setCell ⟨g3, k * 2 + 1, none⟩ (.slice A5 (s'.sm + 1) c5)) U.heap.size HB6.out.size HM6.out.wx.at_ (by rw [List.length_set]; exact HCI.out.len) (by omega) HQ6.out.rows HQ6.out.free (by rw [HRO6.out]; exact (Bt.few_set (by rw [← HPS2.out, Bt.setSt_len]; have := HSM.out.n6; omega) HFW2.out k HL6.out).tot))
                  have x0 := HM6.out.wx.c0
                  have x1 := HM6.out.wx.c1
                  have x2 := HM6.out.wx.c2
                  have x3 := HM6.out.wx.c3
                  have x4 := HM6.out.wx.c4
                  clear h5
                  go_wp2_with fail
                  clear x0 x1 x2 x3 x4 s1 s2
                  generalize w5.setCell ⟨g3, k * 2 + 1, none⟩ (.slice A5 (s'.sm + 1) c5) = w6 at *
                  with_reducible refine HC3.out.mono ?_
                  rintro e W7 ⟨q, rfl, h7⟩
                  have HB7 := Lib.hid (below_next HB6.out h7.out.1)
                  have HAP := Lib.hid (HMV.out.add2 HB7.out q (h7.out.2.2.2.1) (h7.out.2.1.trans (congrArg Bt.made HRO6.out)) h7.out.2.2.1 (fun s hs => HQ6.out.cp s (h7.out.2.2.2.2 s hs)) HLEN.out)
                  clear HC3 HM6 HB6 HQ6
                  go_wp2_with (at_builtin; refine wpList_append_any rfl (.tmp 91) (.tmp 95) 36 36 rfl _ _ rfl rfl _ HAP.out ?_; intro v1 w1 hc1; obtain ⟨A8, c8, l8, rfl, HM8⟩ := hc1)
                  have HKR := Lib.hid (kr_step HAG.out HSZ.out HOWN.out HB7.out HM8.out.2)
                  go_roundg gt
                  case measure => omega
                  case rel => exact ⟨a + 1, A8, m + 1, c8, l8, _, rfl, by omega, by first | rfl | go_num, by first | rfl | go_num, by rw [show Bt.mov1 ps2 xx k (a + 1) = Bt.mov1 ps2 xx k a ++ [Bt.setSt ps2 k (Bt.put (Bt.stAt ps2 k) a xx)] from Bt.map_range _ _, ← List.append_assoc]; exact HM8.out.1, HKR.out.1, HKR.out.2⟩
                · have j1 : decide ((a : Int) ≤ (s.sm : Int)) = false := decide_eq_false (by omega)
                  have hae : a = s.sm + 1 := by omega
                  have HLS := Lib.hid ((HQU.out.free s (List.mem_of_getElem? HS.out)).now).sl
                  subst hae
                  clear ha hg'
                  go_wp2
                  go_roundg gl
                  case measure => omega
                  case rel => exact ⟨k + 1, A, m, c, l, _, rfl, by omega, rfl, by first | rfl | go_num, by rw [show Bt.mov2 ps i f (k + 1) = Bt.mov2 ps i f k ++ Bt.mov1 (Bt.setSt ps i (Bt.out (Bt.stAt ps i) f)) ((Bt.stAt ps i).getD f 0) k ((Bt.stAt (Bt.setSt ps i (Bt.out (Bt.stAt ps i) f)) k).length + 1) from Bt.flat_range _ _, HPS2.out, HXX.out, HST2.out, HLS.out, ← List.append_assoc]; exact HMV.out⟩
            · obtain rfl : k = p.rm := by omega
              go_wp2
              go_roundg gi
              case measure => omega
              case rel => exact ⟨f + 1, A, m, c, l, _, rfl, by omega, rfl, by first | rfl | go_num, by rw [show Bt.mov3 ps i (f + 1) = Bt.mov3 ps i f ++ Bt.mov2 ps i f ps.length from Bt.flat_range _ _, HPL.out, ← List.append_assoc]; exact HMV.out⟩
        · obtain rfl : f = r.sm := by omega
          go_wp2
          go_roundg gu
          case measure => omega
          case rel => exact ⟨i + 1, A, m, c, l, _, rfl, by omega, rfl, by first | rfl | go_num, by rw [show Bt.mov4 ps (i + 1) = Bt.mov4 ps i ++ Bt.mov3 ps i (Bt.stAt ps i).length from Bt.flat_range _ _, HST.out, HRS.out]; exact HMV.out⟩
    · obtain rfl : i = p.rm := by omega
      have HMV1 : Hid (MV w b1 x p (Bt.mov4 ps ps.length) A m c l W) := by rw [HPL.out]; exact HMV.out
      clear HMV
      go_wp2_with fail
      clear d0
      go_loopg [5, 13] p.rm (fun gk s5 s13 Wx => ∃ (i : Nat) (A : Option Addr) (m c : Nat) (l : List Pd) (W : World), W = Wx ∧ i + gk = p.rm ∧ s5 = .slice A m c ∧ s13 = .int .i64 i ∧ Hid (MV w b1 x p (Bt.mov4 ps ps.length ++ Bt.trn3 ps i) A m c l W))
      case atStart => exact ⟨0, A, m, c, l, _, rfl, by omega, rfl, rfl, by rw [show Bt.trn3 ps 0 = [] from rfl, List.append_nil]; exact HMV1.out⟩
      case round =>
        clear HMV1
        obtain ⟨i, A, m, c, l, W, rfl, hig, rfl, rfl, HMV⟩ := hrel
        have d0 := HMV.out.d0
        by_cases hlt : i < p.rm
        · obtain ⟨gu, rfl⟩ : ∃ j, gk = j + 1 := ⟨gk - 1, by omega⟩
          obtain ⟨r, hr⟩ := mlist_at p.rs i (by rw [HMV.out.p0.rl]; exact hlt)
          have HRR := Lib.hid hr
          have HRS : Hid (r.st.length = r.sm) := (HMV.out.p0.ra r (List.mem_of_getElem? hr)).sl
          have HST : Hid (Bt.stAt ps i = r.st) := by unfold Hid; rw [← HPS.out]; exact Bt.stAt_at (ros_at hr)
          have hr12 : r.sm ≤ 12 := by
            have h1 := HSM.out.s12 i
            rw [HST.out, HRS.out] at h1
            exact h1
          have i2 : (i : Int) < (p.rm : Int) := by omega
          obtain ⟨ad, hA, ⟨_, c1⟩, _⟩ := HMV.out.pat.at_ hr
          rw [hA] at d0
          clear hr hA
          go_wp2_with fail
          clear d0 c1
          go_loopg [5, 15] r.sm (fun gk s5 s15 Wx => ∃ (a : Nat) (A : Option Addr) (m c : Nat) (l : List Pd) (W : World), W = Wx ∧ a + gk = r.sm ∧ s5 = .slice A m c ∧ s15 = .int .i64 a ∧ Hid (MV w b1 x p (Bt.mov4 ps ps.length ++ Bt.trn3 ps i ++ Bt.trn2 ps i a) A m c l W))
          case atStart => exact ⟨0, A, m, c, l, _, rfl, by omega, rfl, rfl, by rw [show Bt.trn2 ps i 0 = [] from rfl, List.append_nil]; exact HMV.out⟩
          case round =>
            clear HMV
            obtain ⟨a, A, m, c, l, W, rfl, hag, rfl, rfl, HMV⟩ := hrel
            by_cases ha : a < r.sm
            · obtain ⟨gi, rfl⟩ : ∃ j, gk = j + 1 := ⟨gk - 1, by omega⟩
              have i3 : (a : Int) < (r.sm : Int) := by omega
              go_wp2_with fail
              go_loopg [5, 16] (r.sm - (a + 1)) (fun gk s5 s16 Wx => ∃ (d b : Nat) (A : Option Addr) (m c : Nat) (l : List Pd) (W : World), W = Wx ∧ d + gk = r.sm - (a + 1) ∧ b = a + 1 + d ∧ s5 = .slice A m c ∧ s16 = .int .i64 (b : Int) ∧ Hid (MV w b1 x p (Bt.mov4 ps ps.length ++ Bt.trn3 ps i ++ Bt.trn2 ps i a ++ Bt.trn1 ps i a d) A m c l W))
              case atStart => exact ⟨0, a + 1, A, m, c, l, _, rfl, by omega, rfl, rfl, by first | rfl | go_num, by rw [show Bt.trn1 ps i a 0 = [] from rfl, List.append_nil]; exact HMV.out⟩
              case round =>
                clear HMV
                obtain ⟨d, b, A, m, c, l, W, rfl, hdg, hbd, rfl, rfl, HMV⟩ := hrel
                have HBD := Lib.hid hbd
                have d0 := HMV.out.d0
                by_cases hd : d < r.sm - (a + 1)
                · obtain ⟨gl, rfl⟩ : ∃ j, gk = j + 1 := ⟨gk - 1, by omega⟩
                  have hb : b < r.sm := by omega
                  have hab : a < b := by omega
                  have i4 : (b : Int) < (r.sm : Int) := by omega
                  have hd12 : d ≤ 12 := by omega
                  have HDG := Lib.hid hdg
                  clear hbd hdg hd
                  have HC : Hid (Calls Tryz.prog 55 #[.slice p.rA p.rm p.rc] W (CopPost2 W p.rs p.rm)) := dcopied2_b p.rA p.rm p.rc p.rs W HMV.out.p0.rl (by omega) HMV.out.pat.rows HMV.out.pat.ra
                  have HLEN : Hid ((Bt.mov4 ps ps.length ++ Bt.trn3 ps i ++ Bt.trn2 ps i a ++ Bt.trn1 ps i a d).length ≤ 50000) := by
                    unfold Hid
                    rw [List.length_append, List.length_append, List.length_append, Bt.trn1_len]
                    have h1 := Bt.mov4_len HSM.out (m := ps.length) (by rw [HPL.out]; omega)
                    have h2 := Bt.trn3_len HSM.out (m := i) (by omega)
                    have h3 := Bt.trn2_len HSM.out i (m := a) (by omega)
                    omega
                  go_wp2_with fail
                  clear d0
                  with_reducible refine HC.out.mono ?_
                  rintro e W3 ⟨R, rc, rl, rfl, HCJ⟩
                  have HRO : Hid (ros rl = ps) := by unfold Hid; rw [HCJ.out.ci.eq, List.take_of_length_le (by rw [ros_len, HMV.out.p0.rl]; exact Nat.le_refl _)]; exact HPS.out
                  obtain ⟨r', hr'⟩ := mlist_at rl i (by rw [HCJ.out.ci.len]; exact hlt)
                  have HR' := Lib.hid hr'
                  have HRE : Hid (r'.st = r.st ∧ r'.sm = r.sm) := by
                    have h1 := ros_at hr'
                    rw [HRO.out, ← HPS.out, ros_at HRR.out] at h1
                    have h3 : r.st = r'.st := congrArg Pl.Ro.st (Option.some.inj h1)
                    refine ⟨h3.symm, ?_⟩
                    have h4 := ((HCJ.out.ci.q.free r' (List.mem_of_getElem? hr')).now).sl
                    rw [← h4, ← h3]
                    exact HRS.out
                  obtain ⟨g, hR, hg1, hg2, _⟩ := HCJ.out.ci.q.at_ hr'
                  obtain rfl := hR
                  obtain ⟨gs, HGS, HGL⟩ : ∃ gs, Hid (r'.sA = some ⟨gs, 0, none⟩) ∧ Hid (W.heap.size ≤ gs) := by
                    have ho := HCJ.out.ow r' (List.mem_of_getElem? hr')
                    rcases ho.2 with ⟨e1, h0⟩ | ⟨gs, cap, cur, e1, hgs, _⟩
                    · have h1 := HRE.out.1
                      have h2 := HRS.out
                      rw [h1, h2] at h0
                      omega
                    · injection e1 with e1
                      exact ⟨gs, e1, hgs⟩
                  have HDS : Hid (∀ (j : Nat) (s : Rd), j ≠ i → rl[j]? = some s → (Value.slice s.sA s.sm s.sc).ownBlock ≠ some gs) := fun j s hj hs => HCJ.out.ds i j r' s HR'.out hs (Ne.symm hj) gs (by rw [HGS.out]; rfl)
                  have HTU0 : Hid (TU W.heap.size g p.rm rc rl i r' (Bt.revP r.st a b a) W3) := by
                    rw [Bt.revP_a, ← HRE.out.1]
                    exact ⟨HCJ.out.ci.q.own, fun j s _ hs => HCJ.out.ow s (List.mem_of_getElem? hs), HCJ.out.ow r' (List.mem_of_getElem? hr'), fun s hs => ⟨HCJ.out.ci.q.cp s hs, ((HCJ.out.ci.q.free s hs).now).s2⟩⟩
                  clear hr' hg1 hg2 HC
                  go_wp2_with fail
                  go_loopg [18] (b + 1 - a) (fun gk s18 Ux => ∃ (k : Nat) (U : World), U = Ux ∧ k + gk = b + 1 ∧ a ≤ k ∧ s18 = .int .i64 (k : Int) ∧ Hid (Below W.heap.size W U) ∧ Hid (TU W.heap.size g p.rm rc rl i r' (Bt.revP r.st a b k) U))
                  case atStart => exact ⟨a, _, rfl, by omega, Nat.le_refl _, rfl, HCJ.out.ci.bel, HTU0.out⟩
                  case round =>
                    clear HTU0
                    obtain ⟨k, U, rfl, hkg, hak, rfl, HBU, HTU⟩ := hrel
                    by_cases hk : k ≤ b
                    · obtain ⟨gt, rfl⟩ : ∃ j, gk = j + 1 := ⟨gk - 1, by omega⟩
                      have j1 : decide ((k : Int) ≤ (b : Int)) = true := decide_eq_true (by omega)
                      obtain ⟨e, he⟩ : ∃ e, a + b - k = e := ⟨_, rfl⟩
                      have hesm : e < r.sm := by rw [← he]; omega
                      obtain ⟨z, hz⟩ := mlist_at r.st e (by rw [HRS.out]; exact hesm)
                      obtain ⟨sa, hSA, hcz⟩ := ((HMV.out.below HBU.out).pat.ra r (List.mem_of_getElem? HRR.out)).st e z hz
                      obtain ⟨ad, hA, ⟨_, c1⟩, _⟩ := (HMV.out.below HBU.out).pat.at_ HRR.out
                      have d0 := (HMV.out.below HBU.out).d0
                      rw [hA] at d0
                      rw [hSA] at c1
                      have q1 := HTU.out.at_ HR'.out
                      rw [HGS.out] at q1
                      have hks : k < (Bt.revP r.st a b k).length := by rw [Bt.revP_len, HRS.out]; omega
                      obtain ⟨zz, s1, s2⟩ := HTU.out.cell HGS.out hks
                      have wr1 := wrap_sum (a := a) (b := b) (by omega)
                      have wr2 := wrap_dif (a := a) (b := b) (k := k) (e := e) (by omega) (by omega) he
                      have u1 : (e : Int) < (r.sm : Int) := by omega
                      have u2 : (k : Int) < (r'.sm : Int) := by have := HRE.out.2; omega
                      have HZ : Hid (r.st.getD (a + b - k) 0 = z) := by unfold Hid; rw [he, List.getD_eq_getElem?_getD, hz]; rfl
                      have HTU2 : Hid (∀ U', U' = U.drew → TU W.heap.size g p.rm rc rl i r' (Bt.revP r.st a b (k + 1)) (U'.setCell ⟨gs, k, none⟩ (.int .i64 z))) := fun U' e' => by
                        subst e'
                        rw [← Bt.revP_step hak (by rw [HRS.out]; omega), HZ.out]
                        exact (HTU.out.drew).store HR'.out HGS.out HDS.out hks z
                      have HB2 : Hid (Below W.heap.size W (U.drew.setCell ⟨gs, k, none⟩ (.int .i64 z))) := (HBU.out.drew).setCell (p := ⟨gs, k, none⟩) HGL.out _
                      clear he hz hA hSA hesm hks HTU HBU
                      go_wp2
                      go_region
                      all_goals
                        clear d0 c1 q1 s1 s2 wr1 wr2 hcz
                        go_wp2
                        go_roundg gt
                        case measure => omega
                        case rel => exact ⟨k + 1, _, rfl, by omega, by omega, by first | rfl | go_num, HB2.out, HTU2.out _ rfl⟩
                    · have hke : k = b + 1 := by omega
                      subst hke
                      have HQ6 := Lib.hid (HTU.out.ql HR'.out)
                      have HRO6 : Hid (ros (rl.set i ⟨r'.tr, r'.sA, r'.sm, r'.sc, Bt.revP r.st a b (b + 1)⟩) = Bt.setSt ps i (Bt.rev (Bt.stAt ps i) a b)) := by
                        unfold Hid
                        rw [ros_set HR'.out, HRO.out, HST.out, Bt.revP_end (Nat.le_of_lt hab) (by rw [HRS.out]; exact hb)]
                      have HL6 : Hid ((Bt.rev (Bt.stAt ps i) a b).length ≤ 24) := by
                        unfold Hid
                        rw [HST.out, ← Bt.revP_end (Nat.le_of_lt hab) (by rw [HRS.out]; exact hb), Bt.revP_len, HRS.out]
                        omega
                      have HM6 := Lib.hid (HMV.out.below HBU.out)
                      have HC3 := Lib.hid (dmade_b x (some ⟨g, 0, none⟩) p.rm rc (rl.set i ⟨r'.tr, r'.sA, r'.sm, r'.sc, Bt.revP r.st a b (b + 1)⟩) U W.heap.size HBU.out.size HM6.out.wx.at_ (by rw [List.length_set]; exact HCJ.out.ci.len) (by omega) HQ6.out.rows HQ6.out.free (by rw [HRO6.out]; exact (Bt.few_set (by have := HSM.out.n6; omega) (fun s hs => by have := HSM.out.at_ s hs; omega) i HL6.out).tot))
                      have x0 := HM6.out.wx.c0
                      have x1 := HM6.out.wx.c1
                      have x2 := HM6.out.wx.c2
                      have x3 := HM6.out.wx.c3
                      have x4 := HM6.out.wx.c4
                      have j1 : decide (((b + 1 : Nat) : Int) ≤ (b : Int)) = false := decide_eq_false (by omega)
                      have j2 : ¬ (((b + 1 : Nat) : Int) ≤ (b : Int)) := by omega
                      go_wp2_with fail
                      clear x0 x1 x2 x3 x4 j1 j2
                      with_reducible refine HC3.out.mono ?_
                      rintro e W7 ⟨q, rfl, h7⟩
                      have HAP := Lib.hid (HMV.out.add (below_next HBU.out h7.out.1) q (h7.out.2.2.2.1) (h7.out.2.1.trans (congrArg Bt.made HRO6.out)) h7.out.2.2.1 (fun s hs => HQ6.out.cp s (h7.out.2.2.2.2 s hs)) HLEN.out)
                      clear HC3 HM6 HBU HQ6 HTU
                      go_wp2_with (at_builtin; refine wpList_append_any rfl (.tmp 152) (.tmp 156) 36 36 rfl _ _ rfl rfl _ HAP.out ?_; intro v1 w1 hc1; obtain ⟨A8, c8, l8, rfl, HM8⟩ := hc1)
                      go_roundg gl
                      case measure => omega
                      case rel => exact ⟨d + 1, b + 1, A8, m + 1, c8, l8, _, rfl, by have := HDG.out; omega, by have := HBD.out; omega, by first | rfl | go_num, by first | rfl | go_num, by rw [show Bt.trn1 ps i a (d + 1) = Bt.trn1 ps i a d ++ [Bt.setSt ps i (Bt.rev (Bt.stAt ps i) a (a + 1 + d))] from Bt.map_range _ _, ← HBD.out, ← List.append_assoc]; exact HM8.out⟩
                · have hde : d = r.sm - (a + 1) := by omega
                  have hbe : b = r.sm := by omega
                  have HLE : Hid (r.sm - (a + 1) = (Bt.stAt ps i).length - (a + 1)) := by unfold Hid; rw [HST.out, HRS.out]
                  clear hbd HBD d0
                  subst hde hbe
                  clear hd hdg
                  go_wp2
                  go_roundg gi
                  case measure => omega
                  case rel => exact ⟨a + 1, A, m, c, l, _, rfl, by omega, rfl, by first | rfl | go_num, by rw [show Bt.trn2 ps i (a + 1) = Bt.trn2 ps i a ++ Bt.trn1 ps i a ((Bt.stAt ps i).length - (a + 1)) from Bt.flat_range _ _, ← HLE.out, ← List.append_assoc]; exact HMV.out⟩
            · obtain rfl : a = r.sm := by omega
              go_wp2
              go_roundg gu
              case measure => omega
              case rel => exact ⟨i + 1, A, m, c, l, _, rfl, by omega, rfl, by first | rfl | go_num, by rw [show Bt.trn3 ps (i + 1) = Bt.trn3 ps i ++ Bt.trn2 ps i (Bt.stAt ps i).length from Bt.flat_range _ _, HST.out, HRS.out, ← List.append_assoc]; exact HMV.out⟩
        · obtain rfl : i = p.rm := by omega
          have HEND : Hid (MV w b1 x p (Bt.movedL ps) A m c l W) := by
            rw [show Bt.movedL ps = Bt.mov4 ps ps.length ++ Bt.trn3 ps ps.length from rfl]
            have h := HMV.out
            rw [← HPL.out] at h
            exact h
          go_wp2
          go_ret
          exact HEND.out.post
end Go.Proofs.YtgjmlnpfkmpfgaaGreat
end

section
/-! The document's answer for better: ends that change routes. -/
namespace Go.Proofs.YtgjmlnpfkmpfgaaGreat
open Go.RowKit
set_option linter.unusedVariables false
set_option maxRecDepth 100000

theorem J1.at_ {V w : World} {xb : Option Nat} {x : Int} {n c : Nat} {A : Option Addr} {l : List Int} (h : J1 V xb x l (.slice A n c) w) : IntsAt w A l ∧ ∀ ad, A = some ad → V.heap.size ≤ ad.block := by
  obtain ⟨A', c', e, _, _, h1⟩ := h.own.ints
  injection e with e1 e2 e3
  subst e1
  refine ⟨h1, fun ad e => ?_⟩
  rcases h.own.2 with ⟨e1, _⟩ | ⟨g, cap, cur, e1, hg, _⟩
  · injection e1 with e1; rw [e1] at e; cases e
  · injection e1 with e1
    rw [e1] at e
    obtain rfl := Option.some.inj e
    exact hg
set_option maxHeartbeats 16000000 in
theorem dswapped_b (x : Wd) (p : Pd) (w : World) (hx : WAt w x) (hp : PAt w p) (hsm : Bt.Sm (ros p.rs)) (hcap : ∀ r ∈ p.rs, r.sm ≤ r.sc) :
    Calls Tryz.prog 27 #[.agg #[.int .i64 x.N, .slice x.dA x.dm x.dc, .slice x.tA x.tm x.tc, .slice x.A x.m x.c, .slice x.B x.k x.d], .agg #[.slice p.rA p.rm p.rc, .slice p.uA p.um p.uc]] w (MovPost w x (Bt.swapL (ros p.rs))) := by
  obtain ⟨ps, hps⟩ : ∃ ps, ros p.rs = ps := ⟨_, rfl⟩
  have HPS := Lib.hid hps
  have HCAP := Lib.hid hcap
  rw [hps] at hsm ⊢
  have HSM := Lib.hid hsm
  have HPL : Hid (ps.length = p.rm) := by unfold Hid; rw [← hps, ros_len, hp.rl]
  have hrm : p.rm ≤ 6 := by rw [← HPL.out]; exact hsm.n6
  have HMV0 : Hid (MV w w.heap.size x p [] (some ⟨w.heap.size + 1 + 1, 0, none⟩) 0 0 [] (((w.alloc (.cells #[.int .i64 x.N, .slice x.dA x.dm x.dc, .slice x.tA x.tm x.tc, .slice x.A x.m x.c, .slice x.B x.k x.d] 28)).alloc (.cells #[.slice p.rA p.rm p.rc, .slice p.uA p.um p.uc] 32)).alloc (.cells #[] 32))) := by
    have e1 : (w.alloc (.cells #[.int .i64 x.N, .slice x.dA x.dm x.dc, .slice x.tA x.tm x.tc, .slice x.A x.m x.c, .slice x.B x.k x.d] 28)).heap.size = w.heap.size + 1 := by simp
    have e2 : ((w.alloc (.cells #[.int .i64 x.N, .slice x.dA x.dm x.dc, .slice x.tA x.tm x.tc, .slice x.A x.m x.c, .slice x.B x.k x.d] 28)).alloc (.cells #[.slice p.rA p.rm p.rc, .slice p.uA p.um p.uc] 32)).heap.size = w.heap.size + 1 + 1 := by simp
    refine ⟨hx, hp, rfl, below_more (below_more (below_alloc _ _) _) _, ((Box.new w _ _).below (below_alloc _ _)).below (below_alloc _ _), ?_, ?_, ?_, rfl, rfl, (fun q h => by cases h), (fun q h => by cases h)⟩
    · rw [← e1]; exact (Box.new _ _ _).below (below_alloc _ _)
    · rw [show w.heap.size + 2 = w.heap.size + 1 + 1 from rfl, ← e2]; exact (below_alloc _ _).size
    · rw [show w.heap.size + 2 = w.heap.size + 1 + 1 from rfl, ← e2]; exact PLs.new0 _
  clear hx hp hsm hps hcap
  go_enter Tryz.func27, Tryz.ntmps27
  go_wp2_with fail
  generalize (((w.alloc (.cells #[.int .i64 x.N, .slice x.dA x.dm x.dc, .slice x.tA x.tm x.tc, .slice x.A x.m x.c, .slice x.B x.k x.d] 28)).alloc (.cells #[.slice p.rA p.rm p.rc, .slice p.uA p.um p.uc] 32)).alloc (.cells #[] 32)) = V at *
  generalize hb1 : w.heap.size = b1 at HMV0 ⊢
  have HWB := Lib.hid hb1
  clear hb1
  go_loopg [5, 6] p.rm (fun gk s5 s6 Wx => ∃ (a : Nat) (A : Option Addr) (m c : Nat) (l : List Pd) (W : World), W = Wx ∧ a + gk = p.rm ∧ s5 = .slice A m c ∧ s6 = .int .i64 ((a : Int)) ∧ Hid (MV w b1 x p (Bt.swp4 ps a) A m c l W))
  case atStart => exact ⟨0, _, 0, 0, [], _, rfl, by omega, rfl, rfl, HMV0.out⟩
  case round =>
    clear HMV0
    obtain ⟨a, A, m, c, l, W, rfl, hag, rfl, rfl, HMV⟩ := hrel
    have d0 := HMV.out.d0
    by_cases hlt : a < p.rm
    · obtain ⟨gu, rfl⟩ : ∃ j, gk = j + 1 := ⟨gk - 1, by omega⟩
      obtain ⟨r, hr⟩ := mlist_at p.rs a (by rw [HMV.out.p0.rl]; exact hlt)
      have HR := Lib.hid hr
      have HSA : Hid (Bt.stAt ps a = r.st ∧ r.st.length = r.sm) := ⟨by rw [← HPS.out]; exact Bt.stAt_at (ros_at hr), (HMV.out.p0.ra r (List.mem_of_getElem? hr)).sl⟩
      have hr12 : r.sm ≤ 12 := by have h1 := HSM.out.s12 a; rw [HSA.out.1, HSA.out.2] at h1; exact h1
      have i2 : (a : Int) < (p.rm : Int) := by omega
      clear hr
      go_wp2_with fail
      clear d0
      go_loopg [5, 7] (p.rm - (a + 1)) (fun gk s5 s7 Wx => ∃ (d b : Nat) (A : Option Addr) (m c : Nat) (l : List Pd) (W : World), W = Wx ∧ d + gk = p.rm - (a + 1) ∧ b = a + 1 + d ∧ s5 = .slice A m c ∧ s7 = .int .i64 (b : Int) ∧ Hid (MV w b1 x p (Bt.swp4 ps a ++ Bt.swp3 ps a d) A m c l W))
      case atStart => exact ⟨0, a + 1, A, m, c, l, _, rfl, by omega, rfl, rfl, by first | rfl | go_num, by rw [show Bt.swp3 ps a 0 = [] from rfl, List.append_nil]; exact HMV.out⟩
      case round =>
        clear HMV
        obtain ⟨d, b, A, m, c, l, W, rfl, hdg, hbd, rfl, rfl, HMV⟩ := hrel
        have HBD := Lib.hid hbd
        have d0 := HMV.out.d0
        by_cases hd : d < p.rm - (a + 1)
        · obtain ⟨gi, rfl⟩ : ∃ j, gk = j + 1 := ⟨gk - 1, by omega⟩
          have hb : b < p.rm := by omega
          have hab : a < b := by omega
          clear hbd
          obtain ⟨s, hs⟩ := mlist_at p.rs b (by rw [HMV.out.p0.rl]; exact hb)
          have HS := Lib.hid hs
          have HSB : Hid (Bt.stAt ps b = s.st ∧ s.st.length = s.sm) := ⟨by rw [← HPS.out]; exact Bt.stAt_at (ros_at hs), (HMV.out.p0.ra s (List.mem_of_getElem? hs)).sl⟩
          have hs12 : s.sm ≤ 12 := by have h1 := HSM.out.s12 b; rw [HSB.out.1, HSB.out.2] at h1; exact h1
          have HCP : Hid (r.sm ≤ r.sc ∧ s.sm ≤ s.sc) := ⟨HCAP.out r (List.mem_of_getElem? HR.out), HCAP.out s (List.mem_of_getElem? hs)⟩
          have HRSA : Hid (∀ U, Below w.heap.size w U → RAt U r ∧ RAt U s) := fun U hU => ⟨(HMV.out.p0.ra r (List.mem_of_getElem? HR.out)).below hU, (HMV.out.p0.ra s (List.mem_of_getElem? HS.out)).below hU⟩
          obtain ⟨ad, hA, ⟨_, c1⟩, _⟩ := HMV.out.pat.at_ HR.out
          obtain ⟨ad2, hA2, ⟨_, c2⟩, _⟩ := HMV.out.pat.at_ hs
          rw [hA] at hA2
          obtain rfl := Option.some.inj hA2
          rw [hA] at d0
          have k1 : (b : Int) < (p.rm : Int) := by omega
          have k2 : (a : Int) < (p.rm : Int) := by omega
          clear hs hA hA2
          go_wp2_with fail
          clear d0 c1 c2
          go_loopg [5, 10] (r.sm + 1) (fun gk s5 s10 Wx => ∃ (i : Nat) (A : Option Addr) (m c : Nat) (l : List Pd) (W : World), W = Wx ∧ i + gk = (r.sm + 1) ∧ s5 = .slice A m c ∧ s10 = .int .i64 ((i : Int)) ∧ Hid (MV w b1 x p (Bt.swp4 ps a ++ Bt.swp3 ps a d ++ Bt.swp2 ps a b i) A m c l W))
          case atStart => exact ⟨0, A, m, c, l, _, rfl, by omega, rfl, rfl, by rw [show Bt.swp2 ps a b 0 = [] from rfl, List.append_nil]; exact HMV.out⟩
          case round =>
            clear HMV
            obtain ⟨i, A, m, c, l, W, rfl, hig, rfl, rfl, HMV⟩ := hrel
            by_cases hi : i ≤ r.sm
            · obtain ⟨gl, rfl⟩ : ∃ j, gk = j + 1 := ⟨gk - 1, by omega⟩
              have j1 : decide ((i : Int) ≤ (r.sm : Int)) = true := decide_eq_true (by omega)
              go_wp2_with fail
              go_loopg [5, 11] (s.sm + 1) (fun gk s5 s11 Wx => ∃ (j : Nat) (A : Option Addr) (m c : Nat) (l : List Pd) (W : World), W = Wx ∧ j + gk = (s.sm + 1) ∧ s5 = .slice A m c ∧ s11 = .int .i64 ((j : Int)) ∧ Hid (MV w b1 x p (Bt.swp4 ps a ++ Bt.swp3 ps a d ++ Bt.swp2 ps a b i ++ Bt.swp1 ps a b i j) A m c l W))
              case atStart => exact ⟨0, A, m, c, l, _, rfl, by omega, rfl, rfl, by rw [show Bt.swp1 ps a b i 0 = [] from rfl, List.append_nil]; exact HMV.out⟩
              case round =>
                clear HMV j1
                obtain ⟨j, A, m, c, l, W, rfl, hjg, rfl, rfl, HMV⟩ := hrel
                by_cases hj : j ≤ s.sm
                · obtain ⟨gt, rfl⟩ : ∃ q, gk = q + 1 := ⟨gk - 1, by omega⟩
                  have j1 : decide ((j : Int) ≤ (s.sm : Int)) = true := decide_eq_true (by omega)
                  have d0 := HMV.out.d0
                  have HC : Hid (Calls Tryz.prog 55 #[.slice p.rA p.rm p.rc] W (CopPost W p.rs p.rm)) := dcopied_b p.rA p.rm p.rc p.rs W HMV.out.p0.rl (by omega) HMV.out.pat.rows HMV.out.pat.ra
                  have HLEN : Hid ((Bt.swp4 ps a ++ Bt.swp3 ps a d ++ Bt.swp2 ps a b i ++ Bt.swp1 ps a b i j).length ≤ 50000) := by
                    unfold Hid
                    rw [List.length_append, List.length_append, List.length_append, Bt.swp1_len]
                    have h1 := Bt.swp4_len HSM.out (m := a) (by omega)
                    have h2 := Bt.swp3_len HSM.out a (m := d) (by omega)
                    have h3 := Bt.swp2_len HSM.out a b (m := i) (by omega)
                    omega
                  go_wp2_with fail
                  clear d0
                  with_reducible refine HC.out.mono ?_
                  rintro e W3 ⟨R, rc, rl, rfl, HCI⟩
                  have HRO : Hid (ros rl = ps) := by unfold Hid; rw [HCI.out.eq, List.take_of_length_le (by rw [ros_len, HMV.out.p0.rl]; exact Nat.le_refl _)]; exact HPS.out
                  obtain ⟨ra, hra⟩ := mlist_at rl a (by rw [HCI.out.len]; omega)
                  obtain ⟨g, hR, hg1, hg2, _⟩ := HCI.out.q.at_ hra
                  obtain rfl := hR
                  have HG : Hid (W.heap.size ≤ g ∧ g < W3.heap.size) := ⟨hg1, hg2⟩
                  have ra_at := Lib.hid hra
                  have HQ3 := Lib.hid HCI.out.q
                  have HB3 := Lib.hid (below_next HMV.out.bel HCI.out.bel)
                  clear hra hg1 hg2 HC
                  obtain ⟨X1, cX1, hsl1b, hrow1⟩ := back_is s.sA s.sm s.sc j HCP.out.2 (by omega)
                  have hsl1f := front_is r.sA r.sm r.sc i HCP.out.1 (by omega)
                  obtain ⟨mb1, hmb1⟩ : ∃ m, s.sm - j = m := ⟨_, rfl⟩
                  rw [hmb1] at hsl1b
                  have HF1 : Hid (IntsAt W3 r.sA (r.st.take i)) := ((HRSA.out W3 HB3.out).1.st).take' i
                  have HK1 : Hid (IntsAt W3 X1 (s.st.drop j)) := hrow1 W3 s.st (HRSA.out W3 HB3.out).2.sl (HRSA.out W3 HB3.out).2.st
                  have HLa1 : Hid ((r.st.take i).length = i) := by unfold Hid; rw [List.length_take, (HRSA.out W3 HB3.out).1.sl]; omega
                  have HLb1 : Hid ((s.st.drop j).length = mb1) := by unfold Hid; rw [List.length_drop, (HRSA.out W3 HB3.out).2.sl]; exact hmb1
                  obtain ⟨mm1, hmm1⟩ : ∃ m, i + mb1 = m := ⟨_, rfl⟩
                  have HLc1 : Hid ((r.st.take i ++ s.st.drop j).length = mm1) := by unfold Hid; rw [List.length_append, HLa1.out, HLb1.out]; exact hmm1
                  have HMM1 : Hid (mm1 ≤ 24) := by unfold Hid; omega
                  have HA1 : Hid (∃ v' w', (Builtin.append_ #[30, 30] 30 #[.slice (some ⟨W3.heap.size, 0, none⟩) 0 0, .slice r.sA i r.sc]).run Tryz.prog ((W3.alloc (.cells #[] 3)).drew) = .ok v' w' ∧ ∃ A' c', v' = .slice A' i c' ∧ Hid (J1 W3 none 0 (r.st.take i) (.slice A' i c') w')) := by
                    obtain ⟨v', w', h1, A', c', e, h2⟩ := (J1.a W3 0).app r.sA i r.sc (r.st.take i) HLa1.out HF1.out (by simp; omega) i (by simpa using HLa1.out)
                    subst e
                    exact ⟨_, w', h1, A', c', rfl, h2⟩
                  have HT1 : Hid (∀ w1 A c, J1 W3 none 0 (r.st.take i) (.slice A i c) w1 → ∃ v' w', (Builtin.append_ #[30, 30] 30 #[.slice A i c, .slice X1 mb1 cX1]).run Tryz.prog w1 = .ok v' w' ∧ ∃ A' c', v' = .slice A' mm1 c' ∧ w'.cell? ⟨g, a * 2 + 1, none⟩ = some (.slice ra.sA ra.sm ra.sc) ∧ w'.frozen? ⟨g, a * 2 + 1, none⟩ = false ∧ Hid (J1 W3 none 0 (r.st.take i ++ s.st.drop j) (.slice A' mm1 c') w')) := fun w1 A c h => by
                    obtain ⟨v', w', h1, A', c', e, h2⟩ := h.app X1 mb1 cX1 (s.st.drop j) HLb1.out HK1.out (by rw [HLa1.out]; omega) mm1 HLc1.out
                    subst e
                    obtain ⟨g', e', _, hgl, q0, q1, q2⟩ := HQ3.out.at_ ra_at.out
                    obtain rfl : g = g' := by injection e' with h; injection h
                    exact ⟨_, w', h1, A', c', rfl, by rw [h2.out.bel.cell (p := ⟨g, a * 2 + 1, none⟩) hgl]; exact q1, by rw [h2.out.bel.frozen (p := ⟨g, a * 2 + 1, none⟩) hgl]; exact q2, h2⟩
                  clear hrow1 hmb1 hmm1
                  go_upto_region 17 with fail
                  go_region_law (first
                    | (refine step_append_w w51 (by with_reducible rfl) (by rfl) (.tmp 63) (.tmp 66) 30 30 30 (by rfl) (by rfl) (.slice A51 i c51) (.slice X1 mb1 cX1) (by rfl) (by rfl) _ HT31.out ?_
                       rintro v3 w71 ⟨A71, c71, rfl, t11, t21, HFN1⟩)
                    | (refine step_append_w ((W3.alloc (.cells #[] 3)).drew) (by with_reducible rfl) (by rfl) (.tmp 59) (.tmp 62) 30 30 30 (by rfl) (by rfl) (.slice (some ⟨W3.heap.size, 0, none⟩) 0 0) (.slice r.sA i r.sc) (by rfl) (by rfl) _ HA1.out ?_
                       rintro v1 w51 ⟨A51, c51, rfl, HF11⟩
                       have HT31 := Lib.hid (HT1.out _ _ _ HF11.out)))
                  all_goals
                    have HQ4 := Lib.hid (HQ3.out.set ra_at.out HCI.out.bel.size HG.out.2 HFN1.out.bel HLc1.out (by have := HMM1.out; omega) HFN1.out.cap HFN1.out.at_.1 HFN1.out.at_.2)
                    have HBW4 : Hid (Below W.heap.size W (w71.setCell ⟨g, a * 2 + 1, none⟩ (.slice A71 mm1 c71))) := (below_next HCI.out.bel HFN1.out.bel).setCell (p := ⟨g, a * 2 + 1, none⟩) HG.out.1 _
                    have HSZ4 : Hid (W3.heap.size ≤ (w71.setCell ⟨g, a * 2 + 1, none⟩ (.slice A71 mm1 c71)).heap.size) := by
                      unfold Hid
                      rw [Go.Deep.nblk_setCell]
                      exact HFN1.out.bel.size
                    clear hsl1b hsl1f t11 t21 HFN1 HA1 HT1
                    generalize w71.setCell ⟨g, a * 2 + 1, none⟩ (.slice A71 mm1 c71) = W4 at *
                    obtain ⟨rl2, hrl2⟩ : ∃ l, rl.set a ⟨ra.tr, A71, mm1, c71, r.st.take i ++ s.st.drop j⟩ = l := ⟨_, rfl⟩
                    have HRO2 : Hid (ros rl2 = Bt.setSt ps a ((Bt.stAt ps a).take i ++ (Bt.stAt ps b).drop j)) := by
                      unfold Hid
                      rw [← hrl2, ros_set ra_at.out, HRO.out, HSA.out.1, HSB.out.1]
                    have HL2 : Hid (rl2.length = p.rm) := by unfold Hid; rw [← hrl2, List.length_set]; exact HCI.out.len
                    rw [hrl2] at HQ4
                    obtain ⟨rb, hrb⟩ := mlist_at rl2 b (by rw [HL2.out]; exact hb)
                    have rb_at := Lib.hid hrb
                    have HB4 := Lib.hid (below_next HMV.out.bel HBW4.out)
                    have HG4 : Hid (g < W4.heap.size) := Nat.lt_of_lt_of_le HG.out.2 HSZ4.out
                    clear hrl2 hrb HQ3 HB3
                    obtain ⟨X2, cX2, hsl2b, hrow2⟩ := back_is r.sA r.sm r.sc i HCP.out.1 (by omega)
                    have hsl2f := front_is s.sA s.sm s.sc j HCP.out.2 (by omega)
                    obtain ⟨mb2, hmb2⟩ : ∃ m, r.sm - i = m := ⟨_, rfl⟩
                    rw [hmb2] at hsl2b
                    have HF2 : Hid (IntsAt W4 s.sA (s.st.take j)) := ((HRSA.out W4 HB4.out).2.st).take' j
                    have HK2 : Hid (IntsAt W4 X2 (r.st.drop i)) := hrow2 W4 r.st (HRSA.out W4 HB4.out).1.sl (HRSA.out W4 HB4.out).1.st
                    have HLa2 : Hid ((s.st.take j).length = j) := by unfold Hid; rw [List.length_take, (HRSA.out W4 HB4.out).2.sl]; omega
                    have HLb2 : Hid ((r.st.drop i).length = mb2) := by unfold Hid; rw [List.length_drop, (HRSA.out W4 HB4.out).1.sl]; exact hmb2
                    obtain ⟨mm2, hmm2⟩ : ∃ m, j + mb2 = m := ⟨_, rfl⟩
                    have HLc2 : Hid ((s.st.take j ++ r.st.drop i).length = mm2) := by unfold Hid; rw [List.length_append, HLa2.out, HLb2.out]; exact hmm2
                    have HMM2 : Hid (mm2 ≤ 24) := by unfold Hid; omega
                    have HA2 : Hid (∃ v' w', (Builtin.append_ #[30, 30] 30 #[.slice (some ⟨W4.heap.size, 0, none⟩) 0 0, .slice s.sA j s.sc]).run Tryz.prog ((W4.alloc (.cells #[] 3)).drew) = .ok v' w' ∧ ∃ A' c', v' = .slice A' j c' ∧ Hid (J1 W4 none 0 (s.st.take j) (.slice A' j c') w')) := by
                      obtain ⟨v', w', h1, A', c', e, h2⟩ := (J1.a W4 0).app s.sA j s.sc (s.st.take j) HLa2.out HF2.out (by simp; omega) j (by simpa using HLa2.out)
                      subst e
                      exact ⟨_, w', h1, A', c', rfl, h2⟩
                    have HT2 : Hid (∀ w1 A c, J1 W4 none 0 (s.st.take j) (.slice A j c) w1 → ∃ v' w', (Builtin.append_ #[30, 30] 30 #[.slice A j c, .slice X2 mb2 cX2]).run Tryz.prog w1 = .ok v' w' ∧ ∃ A' c', v' = .slice A' mm2 c' ∧ w'.cell? ⟨g, b * 2 + 1, none⟩ = some (.slice rb.sA rb.sm rb.sc) ∧ w'.frozen? ⟨g, b * 2 + 1, none⟩ = false ∧ Hid (J1 W4 none 0 (s.st.take j ++ r.st.drop i) (.slice A' mm2 c') w')) := fun w1 A c h => by
                      obtain ⟨v', w', h1, A', c', e, h2⟩ := h.app X2 mb2 cX2 (r.st.drop i) HLb2.out HK2.out (by rw [HLa2.out]; omega) mm2 HLc2.out
                      subst e
                      obtain ⟨g', e', _, hgl, q0, q1, q2⟩ := HQ4.out.at_ rb_at.out
                      obtain rfl : g = g' := by injection e' with h; injection h
                      exact ⟨_, w', h1, A', c', rfl, by rw [h2.out.bel.cell (p := ⟨g, b * 2 + 1, none⟩) hgl]; exact q1, by rw [h2.out.bel.frozen (p := ⟨g, b * 2 + 1, none⟩) hgl]; exact q2, h2⟩
                    clear hrow2 hmb2 hmm2
                    go_upto_region 18 with fail
                    go_region_law (first
                      | (refine step_append_w w52 (by with_reducible rfl) (by rfl) (.tmp 76) (.tmp 79) 30 30 30 (by rfl) (by rfl) (.slice A52 j c52) (.slice X2 mb2 cX2) (by rfl) (by rfl) _ HT32.out ?_
                         rintro v3 w72 ⟨A72, c72, rfl, t12, t22, HFN2⟩)
                      | (refine step_append_w ((W4.alloc (.cells #[] 3)).drew) (by with_reducible rfl) (by rfl) (.tmp 72) (.tmp 75) 30 30 30 (by rfl) (by rfl) (.slice (some ⟨W4.heap.size, 0, none⟩) 0 0) (.slice s.sA j s.sc) (by rfl) (by rfl) _ HA2.out ?_
                         rintro v1 w52 ⟨A52, c52, rfl, HF12⟩
                         have HT32 := Lib.hid (HT2.out _ _ _ HF12.out)))
                    all_goals
                      have HQ6 := Lib.hid (HQ4.out.set rb_at.out HBW4.out.size HG4.out HFN2.out.bel HLc2.out (by have := HMM2.out; omega) HFN2.out.cap HFN2.out.at_.1 HFN2.out.at_.2)
                      have HB6 : Hid (Below W.heap.size W (w72.setCell ⟨g, b * 2 + 1, none⟩ (.slice A72 mm2 c72))) := (below_next HBW4.out HFN2.out.bel).setCell (p := ⟨g, b * 2 + 1, none⟩) HG.out.1 _
                      have HRO6 : Hid (ros (rl2.set b ⟨rb.tr, A72, mm2, c72, s.st.take j ++ r.st.drop i⟩) = Bt.setSt (Bt.setSt ps a ((Bt.stAt ps a).take i ++ (Bt.stAt ps b).drop j)) b ((Bt.stAt ps b).take j ++ (Bt.stAt ps a).drop i)) := by
                        unfold Hid
                        rw [ros_set rb_at.out, HRO2.out, HSA.out.1, HSB.out.1]
                      have HFEW : Hid (Bt.Few (Bt.setSt (Bt.setSt ps a ((Bt.stAt ps a).take i ++ (Bt.stAt ps b).drop j)) b ((Bt.stAt ps b).take j ++ (Bt.stAt ps a).drop i))) := by
                        have f1 : Bt.Few (Bt.setSt ps a ((Bt.stAt ps a).take i ++ (Bt.stAt ps b).drop j)) := Bt.few_set (by have := HSM.out.n6; omega) (fun s hs => by have := HSM.out.at_ s hs; omega) a (by rw [HSA.out.1, HSB.out.1, HLc1.out]; exact HMM1.out)
                        exact Bt.few_set f1.1 f1.2 _ (by rw [HSA.out.1, HSB.out.1, HLc2.out]; exact HMM2.out)
                      clear hsl2b hsl2f t12 t22 HFN2 HA2 HT2
                      generalize w72.setCell ⟨g, b * 2 + 1, none⟩ (.slice A72 mm2 c72) = w6 at *
                      have HM6 := Lib.hid (HMV.out.below HB6.out)
                      have HC3 := Lib.hid (dmade_b x (some ⟨g, 0, none⟩) p.rm rc (rl2.set b ⟨rb.tr, A72, mm2, c72, s.st.take j ++ r.st.drop i⟩) w6 W.heap.size HB6.out.size HM6.out.wx.at_ (by rw [List.length_set]; exact HL2.out) (by omega) HQ6.out.rows HQ6.out.free (by rw [HRO6.out]; exact HFEW.out.tot))
                      have x0 := HM6.out.wx.c0
                      have x1 := HM6.out.wx.c1
                      have x2 := HM6.out.wx.c2
                      have x3 := HM6.out.wx.c3
                      have x4 := HM6.out.wx.c4
                      go_wp2_with fail
                      clear x0 x1 x2 x3 x4
                      with_reducible refine HC3.out.mono ?_
                      rintro e W7 ⟨q, rfl, h7⟩
                      have HAP := Lib.hid (HMV.out.add (below_next HB6.out h7.out.1) q (h7.out.2.2.2.1) (h7.out.2.1.trans (congrArg Bt.made HRO6.out)) h7.out.2.2.1 (fun s hs => HQ6.out.cp s (h7.out.2.2.2.2 s hs)) HLEN.out)
                      clear HC3 HM6 HB6 HQ6
                      go_wp2_with (at_builtin; refine wpList_append_any rfl (.tmp 83) (.tmp 87) 36 36 rfl _ _ rfl rfl _ HAP.out ?_; intro v1 w1 hc1; obtain ⟨A8, c8, l8, rfl, HM8⟩ := hc1)
                      go_roundg gt
                      case measure => omega
                      case rel => exact ⟨j + 1, A8, m + 1, c8, l8, _, rfl, by omega, by first | rfl | go_num, by first | rfl | go_num, by rw [show Bt.swp1 ps a b i (j + 1) = Bt.swp1 ps a b i j ++ [Bt.setSt (Bt.setSt ps a ((Bt.stAt ps a).take i ++ (Bt.stAt ps b).drop j)) b ((Bt.stAt ps b).take j ++ (Bt.stAt ps a).drop i)] from Bt.map_range _ _, ← List.append_assoc]; exact HM8.out⟩
                · have j1 : decide ((j : Int) ≤ (s.sm : Int)) = false := decide_eq_false (by omega)
                  have hje : j = s.sm + 1 := by omega
                  subst hje
                  clear hj
                  go_wp2
                  go_roundg gl
                  case measure => omega
                  case rel => exact ⟨i + 1, A, m, c, l, _, rfl, by omega, rfl, by first | rfl | go_num, by rw [show Bt.swp2 ps a b (i + 1) = Bt.swp2 ps a b i ++ Bt.swp1 ps a b i ((Bt.stAt ps b).length + 1) from Bt.flat_range _ _, HSB.out.1, HSB.out.2, ← List.append_assoc]; exact HMV.out⟩
            · have j1 : decide ((i : Int) ≤ (r.sm : Int)) = false := decide_eq_false (by omega)
              have hie : i = r.sm + 1 := by omega
              subst hie
              clear hi
              go_wp2
              go_roundg gi
              case measure => omega
              case rel => exact ⟨d + 1, b + 1, A, m, c, l, _, rfl, by omega, by have := HBD.out; omega, rfl, by first | rfl | go_num, by rw [show Bt.swp3 ps a (d + 1) = Bt.swp3 ps a d ++ Bt.swp2 ps a (a + 1 + d) ((Bt.stAt ps a).length + 1) from Bt.flat_range _ _, ← HBD.out, HSA.out.1, HSA.out.2, ← List.append_assoc]; exact HMV.out⟩
        · have hde : d = p.rm - (a + 1) := by omega
          have hbe : b = p.rm := by omega
          clear hbd HBD
          subst hde hbe
          clear hd
          go_wp2
          go_roundg gu
          case measure => omega
          case rel => exact ⟨a + 1, A, m, c, l, _, rfl, by omega, rfl, by first | rfl | go_num, by rw [show Bt.swp4 ps (a + 1) = Bt.swp4 ps a ++ Bt.swp3 ps a (ps.length - (a + 1)) from Bt.flat_range _ _, HPL.out]; exact HMV.out⟩
    · obtain rfl : a = p.rm := by omega
      have HEND : Hid (MV w b1 x p (Bt.swapL ps) A m c l W) := by
        have h := HMV.out
        rw [show Bt.swapL ps = Bt.swp4 ps ps.length from rfl, HPL.out]
        exact h
      go_wp2
      go_ret
      exact HEND.out.post
end Go.Proofs.YtgjmlnpfkmpfgaaGreat
end
