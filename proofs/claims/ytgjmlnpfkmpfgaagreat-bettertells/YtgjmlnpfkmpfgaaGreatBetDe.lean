/- The document's answer for better: moves that put an order into a route, or open one. -/
import Derived.Test.YtgjmlnpfkmpfgaaGreatBetDdi
import Derived.BigQuiet
import Derived.Deep.RegionHeld3
namespace Go.Proofs.YtgjmlnpfkmpfgaaGreat
open Go.RowKit
set_option linter.unusedVariables false
set_option maxRecDepth 100000

/-- one route more, of which no more is known than that it lies apart from the row -/
theorem QLs.one' {W : World} {base n c : Nat} {A : Option Addr} {l : List Rd} (h : QLs W base (.slice A n c) l) (hn : l.length = n) (hb : base ≤ W.heap.size) (p : Rd) (hp : St W base (Value.slice A n c).ownBlock fun W' => RAt W' p) (hcp : p.sm ≤ p.sc) (hs : n ≤ 50000) :
    ∃ v' w', (Builtin.append_ #[29, 29] 29 #[.slice A n c, .slice (some ⟨W.heap.size, 0, none⟩) 1 1]).run Tryz.prog (W.alloc (.cells #[.int .i64 p.tr, .slice p.sA p.sm p.sc] 49)) = .ok v' w' ∧ ∃ A' c', v' = .slice A' (n + 1) c' ∧ Hid (QLs w' base (.slice A' (n + 1) c') (l ++ [p]) ∧ Below base W w') := by
  have hbel : Below W.heap.size W (W.alloc (.cells #[.int .i64 p.tr, .slice p.sA p.sm p.sc] 49)) := below_alloc _ _
  have hbx : Box (W.alloc (.cells #[.int .i64 p.tr, .slice p.sA p.sm p.sc] 49)) W.heap.size #[.int .i64 p.tr, .slice p.sA p.sm p.sc] 49 := Box.new W _ _
  have hrow : RowsR (W.alloc (.cells #[.int .i64 p.tr, .slice p.sA p.sm p.sc] 49)) (some ⟨W.heap.size, 0, none⟩) [p] := fun k s hk => by
    have hk0 : k = 0 := by have := (List.getElem?_eq_some_iff.1 hk).1; simp at this; exact this
    subst hk0
    obtain rfl : p = s := by simpa using hk
    refine ⟨_, rfl, ?_, ?_⟩
    · rw [add_flat]; exact hbx.cell 0 _ rfl
    · rw [add_flat]; exact hbx.cell 1 _ rfl
  obtain ⟨v', w', h1, A', c', e, h2⟩ := (h.below hbel).app (Nat.le_trans hb hbel.size) (some ⟨W.heap.size, 0, none⟩) 1 1 [p] rfl hrow (fun q hq => by
    obtain rfl := List.mem_singleton.1 hq
    exact hp.below hbel) (fun q hq => by obtain rfl := List.mem_singleton.1 hq; exact hcp) (by omega) (n + 1) (by rw [List.length_append, hn]; rfl)
  exact ⟨v', w', h1, A', c', e, h2.out.1, (hbel.mono hb).trans h2.out.2.1⟩
theorem drewN_below' (w : World) (q : Nat) : Below w.heap.size w (w.drewN q) := ⟨rfl, rfl, rfl, Nat.le_refl _, fun _ _ => rfl⟩
set_option maxHeartbeats 16000000 in
theorem dmore_b (x : Wd) (p : Pd) (w : World) (hx : WAt w x) (hp : PAt w p) (hsm : Bt.Sm (ros p.rs)) (hu : p.us.length ≤ 12) (hk : x.k ≤ 6) :
    Calls Tryz.prog 25 #[.agg #[.int .i64 x.N, .slice x.dA x.dm x.dc, .slice x.tA x.tm x.tc, .slice x.A x.m x.c, .slice x.B x.k x.d], .agg #[.slice p.rA p.rm p.rc, .slice p.uA p.um p.uc]] w (MovPost w x (Bt.moreL (ros p.rs) p.us (x.ts.map Ld.T.id))) := by
  obtain ⟨ps, hps⟩ : ∃ ps, ros p.rs = ps := ⟨_, rfl⟩
  have HPS := Lib.hid hps
  obtain ⟨ids, hids⟩ : ∃ ids, x.ts.map Ld.T.id = ids := ⟨_, rfl⟩
  rw [hps] at hsm ⊢
  have HSM := Lib.hid hsm
  have HPL : Hid (ps.length = p.rm) := by unfold Hid; rw [← hps, ros_len, hp.rl]
  have HUL : Hid (p.us.length = p.um) := hp.ul
  have HIDS : Hid (x.ts.map Ld.T.id = ids) := hids
  have HIL : Hid (ids.length = x.k) := by unfold Hid; rw [← hids, List.length_map]; exact hx.kl
  have hum : p.um ≤ 12 := by rw [← hp.ul]; exact hu
  have hrm : p.rm ≤ 6 := by rw [← HPL.out]; exact hsm.n6
  have HMV0 : Hid (MV w w.heap.size x p [] (some ⟨w.heap.size + 1 + 1, 0, none⟩) 0 0 [] (((w.alloc (.cells #[.int .i64 x.N, .slice x.dA x.dm x.dc, .slice x.tA x.tm x.tc, .slice x.A x.m x.c, .slice x.B x.k x.d] 28)).alloc (.cells #[.slice p.rA p.rm p.rc, .slice p.uA p.um p.uc] 32)).alloc (.cells #[] 32))) := by
    have e1 : (w.alloc (.cells #[.int .i64 x.N, .slice x.dA x.dm x.dc, .slice x.tA x.tm x.tc, .slice x.A x.m x.c, .slice x.B x.k x.d] 28)).heap.size = w.heap.size + 1 := by simp
    have e2 : ((w.alloc (.cells #[.int .i64 x.N, .slice x.dA x.dm x.dc, .slice x.tA x.tm x.tc, .slice x.A x.m x.c, .slice x.B x.k x.d] 28)).alloc (.cells #[.slice p.rA p.rm p.rc, .slice p.uA p.um p.uc] 32)).heap.size = w.heap.size + 1 + 1 := by simp
    refine ⟨hx, hp, rfl, below_more (below_more (below_alloc _ _) _) _, ((Box.new w _ _).below (below_alloc _ _)).below (below_alloc _ _), ?_, ?_, ?_, rfl, rfl, (fun q h => by cases h), (fun q h => by cases h)⟩
    · rw [← e1]; exact (Box.new _ _ _).below (below_alloc _ _)
    · rw [show w.heap.size + 2 = w.heap.size + 1 + 1 from rfl, ← e2]; exact (below_alloc _ _).size
    · rw [show w.heap.size + 2 = w.heap.size + 1 + 1 from rfl, ← e2]; exact PLs.new0 _
  clear hx hp hsm hps hu hids
  go_enter Tryz.func25, Tryz.ntmps25
  go_wp2_with fail
  generalize (((w.alloc (.cells #[.int .i64 x.N, .slice x.dA x.dm x.dc, .slice x.tA x.tm x.tc, .slice x.A x.m x.c, .slice x.B x.k x.d] 28)).alloc (.cells #[.slice p.rA p.rm p.rc, .slice p.uA p.um p.uc] 32)).alloc (.cells #[] 32)) = V at *
  generalize hb1 : w.heap.size = b1 at HMV0 ⊢
  clear hb1
  go_loopg [5, 6] p.um (fun gk s5 s6 Wx => ∃ (u : Nat) (A : Option Addr) (m c : Nat) (l : List Pd) (W : World), W = Wx ∧ u + gk = p.um ∧ s5 = .slice A m c ∧ s6 = .int .i64 u ∧ Hid (MV w b1 x p (Bt.ins3 ps (p.us.take u)) A m c l W))
  case atStart => exact ⟨0, _, 0, 0, [], _, rfl, by omega, rfl, rfl, HMV0.out⟩
  case round =>
    clear HMV0
    obtain ⟨u, A, m, c, l, W, rfl, hug, rfl, rfl, HMV⟩ := hrel
    have d1 := HMV.out.d1
    by_cases hlt : u < p.um
    · obtain ⟨gu, rfl⟩ : ∃ j, gk = j + 1 := ⟨gk - 1, by omega⟩
      obtain ⟨uu, huu⟩ := mlist_at p.us u (by rw [HUL.out]; exact hlt)
      have HUU := Lib.hid huu
      have i1 : (u : Int) < (p.um : Int) := by omega
      clear huu
      go_wp2_with fail
      clear d1
      go_loopg [5, 7] p.rm (fun gk s5 s7 Wx => ∃ (i : Nat) (A : Option Addr) (m c : Nat) (l : List Pd) (W : World), W = Wx ∧ i + gk = p.rm ∧ s5 = .slice A m c ∧ s7 = .int .i64 i ∧ Hid (MV w b1 x p (Bt.ins3 ps (p.us.take u) ++ Bt.ins2 ps uu i) A m c l W))
      case atStart => exact ⟨0, A, m, c, l, _, rfl, by omega, rfl, rfl, by rw [show Bt.ins2 ps uu 0 = [] from rfl, List.append_nil]; exact HMV.out⟩
      case round =>
        clear HMV
        obtain ⟨i, A, m, c, l, W, rfl, hig, rfl, rfl, HMV⟩ := hrel
        have d0 := HMV.out.d0
        by_cases hlt2 : i < p.rm
        · obtain ⟨gi, rfl⟩ : ∃ j, gk = j + 1 := ⟨gk - 1, by omega⟩
          obtain ⟨r, hr⟩ := mlist_at p.rs i (by rw [HMV.out.p0.rl]; exact hlt2)
          have HRR := Lib.hid hr
          have HST : Hid (Bt.stAt ps i = r.st) := by unfold Hid; rw [← HPS.out]; exact Bt.stAt_at (ros_at hr)
          have hr12 : r.sm ≤ 12 := by
            have h1 := HSM.out.s12 i
            rw [HST.out, (HMV.out.p0.ra r (List.mem_of_getElem? hr)).sl] at h1
            exact h1
          have i2 : (i : Int) < (p.rm : Int) := by omega
          clear hr
          go_wp2_with fail
          clear d0
          go_loopg [5, 8] (r.sm + 1) (fun gk s5 s8 Wx => ∃ (k : Nat) (A : Option Addr) (m c : Nat) (l : List Pd) (W : World), W = Wx ∧ k + gk = (r.sm + 1) ∧ s5 = .slice A m c ∧ s8 = .int .i64 k ∧ Hid (MV w b1 x p (Bt.ins3 ps (p.us.take u) ++ Bt.ins2 ps uu i ++ Bt.ins1 ps uu i k) A m c l W))
          case atStart => exact ⟨0, A, m, c, l, _, rfl, by omega, rfl, rfl, by rw [show Bt.ins1 ps uu i 0 = [] from rfl, List.append_nil]; exact HMV.out⟩
          case round =>
            clear HMV
            obtain ⟨k, A, m, c, l, W, rfl, hkg, rfl, rfl, HMV⟩ := hrel
            have d0 := HMV.out.d0
            obtain ⟨ad, hA, ⟨_, c1⟩, hra⟩ := HMV.out.pat.at_ HRR.out
            have HA := Lib.hid hA
            rw [hA] at d0
            clear hA
            by_cases hk : k ≤ r.sm
            · obtain ⟨gt, rfl⟩ : ∃ j, gk = j + 1 := ⟨gk - 1, by omega⟩
              have j1 : decide ((k : Int) ≤ (r.sm : Int)) = true := decide_eq_true (by omega)
              have HC : Hid (Calls Tryz.prog 55 #[.slice (some ad) p.rm p.rc] W (CopPost W p.rs p.rm)) := dcopied_b (some ad) p.rm p.rc p.rs W HMV.out.p0.rl (by omega) (by rw [← HA.out]; exact HMV.out.pat.rows) HMV.out.pat.ra
              have HRS := Lib.hid (HMV.out.p0.ra r (List.mem_of_getElem? HRR.out)).sl
              have HLEN : Hid ((Bt.ins3 ps (p.us.take u) ++ Bt.ins2 ps uu i ++ Bt.ins1 ps uu i k).length ≤ 50000) := by
                unfold Hid
                rw [List.length_append, List.length_append, Bt.ins1_len]
                have h1 := Bt.ins3_len HSM.out (us := p.us.take u) (by rw [List.length_take]; omega)
                have h2 := Bt.ins2_len HSM.out uu (m := i) (by omega)
                omega
              clear hra
              go_wp2_with fail
              clear d0 c1
              with_reducible refine HC.out.mono ?_
              rintro e W3 ⟨R, rc, rl, rfl, HCI⟩
              have HRO : Hid (ros rl = ps) := by unfold Hid; rw [HCI.out.eq, List.take_of_length_le (by rw [ros_len, HMV.out.p0.rl]; exact Nat.le_refl _)]; exact HPS.out
              obtain ⟨r', hr'⟩ := mlist_at rl i (by rw [HCI.out.len]; exact hlt2)
              have HR' := Lib.hid hr'
              have HRE : Hid (r'.st = r.st ∧ r'.sm = r.sm) := by
                have h1 := ros_at hr'
                rw [HRO.out, ← HPS.out, ros_at HRR.out] at h1
                have h2 : r.ro = r'.ro := Option.some.inj h1
                have h3 : r.st = r'.st := congrArg Pl.Ro.st h2
                refine ⟨h3.symm, ?_⟩
                have h4 := ((HCI.out.q.free r' (List.mem_of_getElem? hr')).now).sl
                rw [← h4, ← h3]
                exact HRS.out
              obtain ⟨g, hR, hg1, hg2, q0, q1, q2⟩ := HCI.out.q.at_ hr'
              obtain rfl := hR
              have HG : Hid (W.heap.size ≤ g ∧ g < W3.heap.size) := ⟨hg1, hg2⟩
              have HM3 := Lib.hid (HMV.out.below HCI.out.bel)
              have e1 := HM3.out.d1
              obtain ⟨ua, hU, hcu⟩ := HM3.out.pat.us u uu HUU.out
              rw [hU] at e1
              have hrm' := HRE.out.2
              have HPUT : Hid (Calls Tryz.prog 56 #[.slice r'.sA r'.sm r'.sc, .int .i64 (k : Int), .int .i64 uu] W3.drew fun e w5 => ∃ A5 c5, e = .returned (.slice A5 (r'.sm + 1) c5) ∧ w5.cell? ⟨g, i * 2 + 1, none⟩ = some (.slice r'.sA r'.sm r'.sc) ∧ w5.frozen? ⟨g, i * 2 + 1, none⟩ = false ∧ Hid (Below W3.heap.size W3 w5 ∧ (Bt.put r'.st k uu).length = r'.sm + 1 ∧ r'.sm + 1 ≤ c5 ∧ IntsAt w5 A5 (Bt.put r'.st k uu) ∧ ∀ ad, A5 = some ad → W3.heap.size ≤ ad.block)) := by
                have h1 := (HCI.out.q.free r' (List.mem_of_getElem? HR'.out)).now
                refine (dput_b r'.sA r'.sm r'.sc k r'.st uu W3.drew h1.sl (HCI.out.q.cp r' (List.mem_of_getElem? HR'.out)) (by omega) (by have := h1.s2; omega) (h1.st.below (Below.refl _ _).drew)).mono ?_
                rintro e w5 ⟨A5, c5, rfl, h5⟩
                obtain ⟨g1, g2, g3, g4, g5⟩ := h5.out
                have hb : Below W3.heap.size W3 w5 := below_next (Below.refl _ _).drew g3
                exact ⟨A5, c5, rfl, by rw [hb.cell (p := ⟨g, i * 2 + 1, none⟩) HG.out.2]; exact q1, by rw [hb.frozen (p := ⟨g, i * 2 + 1, none⟩) HG.out.2]; exact q2, hb, g1, g2, g4, fun ad e => g5 ad e⟩
              clear hr' hg1 hg2 q0 q2 hU hrm'
              go_upto_region 12 with fail
              go_region_law (go_simp; go_at_call 56; ((with_reducible refine HPUT.out.mono ?_)); rintro e w5 ⟨A5, c5, rfl, s1, s2, h5⟩)
              all_goals
                have HB6 : Hid (Below W.heap.size W (w5.setCell ⟨g, i * 2 + 1, none⟩ (.slice A5 (r'.sm + 1) c5))) := (below_next HCI.out.bel h5.out.1).setCell (p := ⟨g, i * 2 + 1, none⟩) HG.out.1 _
                have HQ6 := Lib.hid (HCI.out.q.set HR'.out HCI.out.bel.size HG.out.2 h5.out.1 h5.out.2.1 (by have := HRE.out.2; omega) h5.out.2.2.1 h5.out.2.2.2.1 h5.out.2.2.2.2)
                have HRO6 : Hid (ros (rl.set i ⟨r'.tr, A5, r'.sm + 1, c5, Bt.put r'.st k uu⟩) = Bt.setSt ps i (Bt.put (Bt.stAt ps i) k uu)) := by
                  unfold Hid
                  rw [ros_set HR'.out, HRO.out, HST.out, HRE.out.1]
                have HL6 : Hid ((Bt.put (Bt.stAt ps i) k uu).length ≤ 24) := by
                  unfold Hid
                  rw [HST.out, ← HRE.out.1, h5.out.2.1, HRE.out.2]
                  omega
                clear q1 e1 hcu s1 s2 h5
                generalize w5.setCell ⟨g, i * 2 + 1, none⟩ (.slice A5 (r'.sm + 1) c5) = w6 at *
                have HM6 := Lib.hid (HMV.out.below HB6.out)
                have HC3 := Lib.hid (dmade_b x (some ⟨g, 0, none⟩) p.rm rc (rl.set i ⟨r'.tr, A5, r'.sm + 1, c5, Bt.put r'.st k uu⟩) w6 W.heap.size HB6.out.size HM6.out.wx.at_ (by rw [List.length_set]; exact HCI.out.len) (by omega) HQ6.out.rows HQ6.out.free (by rw [HRO6.out]; exact (Bt.few_set (by have := HSM.out.n6; omega) (fun s hs => by have := HSM.out.at_ s hs; omega) i HL6.out).tot))
                have x0 := HM6.out.wx.c0
                have x1 := HM6.out.wx.c1
                have x2 := HM6.out.wx.c2
                have x3 := HM6.out.wx.c3
                have x4 := HM6.out.wx.c4
                go_wp2_with fail
                clear x0 x1 x2 x3 x4
                with_reducible refine HC3.out.mono ?_
                rintro e W7 ⟨q, rfl, h7⟩
                have HAP := Lib.hid (HMV.out.add (below_next HB6.out h7.out.1) q (h7.out.2.2.2.1) (h7.out.2.1.trans (congrArg Bt.made HRO6.out)) h7.out.2.2.1 (fun s hs => HQ6.out.cp s (h7.out.2.2.2.2 s hs)) (by have := HLEN.out; omega))
                clear HC3 HM6 HB6 HQ6
                go_wp2_with (at_builtin; refine wpList_append_any rfl (.tmp 60) (.tmp 64) 36 36 rfl _ _ rfl rfl _ HAP.out ?_; intro v1 w1 hc1; obtain ⟨A8, c8, l8, rfl, HM8⟩ := hc1)
                go_roundg gt
                case measure => omega
                case rel => exact ⟨k + 1, A8, m + 1, c8, l8, _, rfl, by omega, by first | rfl | go_num, by first | rfl | go_num, by rw [show Bt.ins1 ps uu i (k + 1) = Bt.ins1 ps uu i k ++ [Bt.setSt ps i (Bt.put (Bt.stAt ps i) k uu)] from Bt.map_range _ _, ← List.append_assoc]; exact HM8.out⟩
            · have j1 : decide ((k : Int) ≤ (r.sm : Int)) = false := decide_eq_false (by omega)
              have hke : k = r.sm + 1 := by omega
              have HLS := Lib.hid hra.sl
              subst hke
              clear hk hra
              go_wp2
              go_roundg gi
              case measure => omega
              case rel => exact ⟨i + 1, A, m, c, l, _, rfl, by omega, rfl, by first | rfl | go_num, by rw [show Bt.ins2 ps uu (i + 1) = Bt.ins2 ps uu i ++ Bt.ins1 ps uu i ((Bt.stAt ps i).length + 1) from Bt.flat_range _ _, HST.out, HLS.out, ← List.append_assoc]; exact HMV.out⟩
        · obtain rfl : i = p.rm := by omega
          go_wp2
          go_roundg gu
          case measure => omega
          case rel => exact ⟨u + 1, A, m, c, l, _, rfl, by omega, rfl, by first | rfl | go_num, by rw [show Bt.ins3 ps (p.us.take (u + 1)) = Bt.ins3 ps (p.us.take u) ++ Bt.ins2 ps uu ps.length from Bt.flat_take _ HUU.out, HPL.out]; exact HMV.out⟩
    · obtain rfl : u = p.um := by omega
      have HMV1 : Hid (MV w b1 x p (Bt.ins3 ps p.us) A m c l W) := by
        have h := HMV.out
        rw [List.take_of_length_le (by rw [HUL.out]; exact Nat.le_refl _)] at h
        exact h
      clear HMV hlt hug
      go_wp2_with fail
      clear d1
      go_loopg [5, 10] p.um (fun gk s5 s10 Wx => ∃ (u : Nat) (A : Option Addr) (m c : Nat) (l : List Pd) (W : World), W = Wx ∧ u + gk = p.um ∧ s5 = .slice A m c ∧ s10 = .int .i64 u ∧ Hid (MV w b1 x p (Bt.ins3 ps p.us ++ Bt.open2 ps (p.us.take u) ids) A m c l W))
      case atStart => exact ⟨0, A, m, c, l, _, rfl, by omega, rfl, rfl, by rw [show Bt.open2 ps (p.us.take 0) ids = [] from rfl, List.append_nil]; exact HMV1.out⟩
      case round =>
        clear HMV1
        obtain ⟨u, A, m, c, l, W, rfl, hug, rfl, rfl, HMV⟩ := hrel
        have d1 := HMV.out.d1
        by_cases hlt : u < p.um
        · obtain ⟨gu, rfl⟩ : ∃ j, gk = j + 1 := ⟨gk - 1, by omega⟩
          obtain ⟨uu, huu⟩ := mlist_at p.us u (by rw [HUL.out]; exact hlt)
          have HUU := Lib.hid huu
          have i1 : (u : Int) < (p.um : Int) := by omega
          clear huu
          go_wp2_with fail
          clear d1
          go_loopg [5, 11] x.k (fun gk s5 s11 Wx => ∃ (t : Nat) (A : Option Addr) (m c : Nat) (l : List Pd) (W : World), W = Wx ∧ t + gk = x.k ∧ s5 = .slice A m c ∧ s11 = .int .i64 t ∧ Hid (MV w b1 x p (Bt.ins3 ps p.us ++ Bt.open2 ps (p.us.take u) ids ++ Bt.open1 ps uu (ids.take t)) A m c l W))
          case atStart => exact ⟨0, A, m, c, l, _, rfl, by omega, rfl, rfl, by rw [show Bt.open1 ps uu (ids.take 0) = [] from rfl, List.append_nil]; exact HMV.out⟩
          case round =>
            clear HMV
            obtain ⟨t, A, m, c, l, W, rfl, htg, rfl, rfl, HMV⟩ := hrel
            have x4 := HMV.out.wx.c4
            by_cases hlt2 : t < x.k
            · obtain ⟨gt, rfl⟩ : ∃ j, gk = j + 1 := ⟨gk - 1, by omega⟩
              obtain ⟨⟨tid, t1, t2, t3, t4, t5, t6⟩, ht⟩ := mlist_at x.ts t (by rw [HMV.out.x0.kl]; exact hlt2)
              have HT := Lib.hid ht
              have HTI : Hid (ids[t]? = some tid) := by unfold Hid; rw [← HIDS.out, List.getElem?_map, ht]; rfl
              have i3 : (t : Int) < (x.k : Int) := by omega
              clear ht
              go_wp2_with fail
              clear x4
              go_loopg [12, 13] p.rm (fun gk s12 s13 Wx => ∃ (i qn : Nat), i + gk = p.rm ∧ s12 = .bool ((Pl.trs (ps.take i)).contains tid) ∧ s13 = .int .i64 i ∧ Wx = W.drewN qn)
              case atStart => exact ⟨0, 0, by omega, rfl, rfl, rfl⟩
              case round =>
                obtain ⟨i, qn, hig, rfl, rfl, rfl⟩ := hrel
                have HMVD := Lib.hid (HMV.out.below (drewN_below' W qn))
                have d0 := HMVD.out.d0
                by_cases hi : i < p.rm
                · obtain ⟨gi, rfl⟩ : ∃ j, gk = j + 1 := ⟨gk - 1, by omega⟩
                  obtain ⟨r, hr⟩ := mlist_at p.rs i (by rw [HMV.out.p0.rl]; exact hi)
                  obtain ⟨ad, hA, ⟨c0, _⟩, _⟩ := HMVD.out.pat.at_ hr
                  rw [hA] at d0
                  have i2 : (i : Int) < (p.rm : Int) := by omega
                  have x4 := HMVD.out.wx.c4
                  obtain ⟨bd, hB, k0, _, _, _, _, _, _⟩ := HMVD.out.wx.at_.ts.at_ HT.out
                  simp only at k0
                  rw [hB] at x4
                  have HW : Hid (∀ m, (W.drewN qn).drewN m = W.drewN (qn + m)) := fun m => by simp
                  have HTK : Hid ((Pl.trs (ps.take (i + 1))).contains tid = ((Pl.trs (ps.take i)).contains tid || (r.tr == tid))) := by
                    unfold Hid
                    rw [Pl.trs_take (show ps[i]? = some r.ro from by rw [← HPS.out]; exact ros_at hr), List.contains_append]
                    congr 1
                    simp only [List.contains_cons, List.contains_nil, Bool.or_false]
                    exact Bool.beq_comm
                  clear hr hA hB
                  obtain ⟨bu, hbu⟩ : ∃ b, (Pl.trs (ps.take i)).contains tid = b := ⟨_, rfl⟩
                  rw [hbu] at HTK ⊢
                  clear hbu
                  cases bu with
                  | true =>
                    clear c0 k0
                    generalize W.drewN qn = W9 at *
                    go_wp2
                    go_quiet (fail)
                    go_wp2
                    go_roundg gi
                    case measure => omega
                    case rel => exact ⟨i + 1, _, by omega, by rw [HTK.out]; rfl, by first | rfl | go_num, HW.out _⟩
                  | false =>
                    obtain ⟨be, hbe⟩ : ∃ b, (r.tr == tid) = b := ⟨_, rfl⟩
                    have HBE := Lib.hid hbe
                    rw [hbe] at HTK
                    generalize W.drewN qn = W9 at *
                    go_wp2
                    go_quiet (fail)
                    go_wp2
                    go_roundg gi
                    case measure => omega
                    case rel => exact ⟨i + 1, _, by omega, by rw [HTK.out]; rfl, by first | rfl | go_num, HW.out _⟩
                · obtain rfl : i = p.rm := by omega
                  have hall : ps.take p.rm = ps := List.take_of_length_le (by rw [HPL.out]; exact Nat.le_refl _)
                  obtain ⟨bu, hbu⟩ : ∃ b, (Pl.trs ps).contains tid = b := ⟨_, rfl⟩
                  have HUSED := Lib.hid hbu
                  rw [hall, hbu]
                  have HMV0 := Lib.hid HMVD.out
                  clear HMV hall hbu HMVD
                  generalize W.drewN qn = W0 at *
                  cases bu with
                  | true =>
                    go_wp2
                    go_roundg gt
                    case measure => omega
                    case rel => exact ⟨t + 1, A, m, c, l, _, rfl, by omega, by first | rfl | go_num, by first | rfl | go_num, by rw [Bt.open1_take HTI.out, if_pos HUSED.out]; exact HMV0.out⟩
                  | false =>
                have HLEN : Hid ((Bt.ins3 ps p.us ++ Bt.open2 ps (p.us.take u) ids ++ Bt.open1 ps uu (ids.take t)).length ≤ 50000) := by
                  unfold Hid
                  rw [List.length_append, List.length_append]
                  have h1 := Bt.ins3_len HSM.out (us := p.us) (by rw [HUL.out]; exact hum)
                  have h2 := Bt.open2_len ps (us := p.us.take u) (ids := ids) (by rw [List.length_take]; omega) (by rw [HIL.out]; exact hk)
                  have h3 := Bt.open1_len ps uu (ids.take t)
                  rw [List.length_take] at h3
                  omega
                obtain ⟨bd, hB, k0, _, _, _, _, _, _⟩ := HMV0.out.wx.at_.ts.at_ HT.out
                simp only at k0
                obtain ⟨ua, hU, hcu⟩ := HMV0.out.pat.us u uu HUU.out
                have HBD := Lib.hid hB
                have HUA := Lib.hid hU
                have HY : Hid (∀ U, Below W0.heap.size W0 U → U.cell? ⟨b1 + 1, 0, none⟩ = some (.slice p.rA p.rm p.rc) ∧ U.cell? ⟨b1 + 1, 1, none⟩ = some (.slice (some ua) p.um p.uc) ∧ U.cell? (ua.add u) = some (.int .i64 uu) ∧ U.cell? ⟨b1, 4, none⟩ = some (.slice (some bd) x.k x.d) ∧ U.cell? (bd.add (t * 7)) = some (.int .i64 tid)) := fun U hU => by
                  have h := HMV0.out.below hU
                  refine ⟨h.d0, by rw [← HUA.out]; exact h.d1, by rw [hU.cell (p := ua.add u) (lt_of_cell hcu)]; exact hcu, by rw [← HBD.out]; exact h.wx.c4, by rw [hU.cell (p := bd.add (t * 7)) (lt_of_cell k0)]; exact k0⟩
                have HC : Hid (∀ U, Below W0.heap.size W0 U → Calls Tryz.prog 55 #[.slice p.rA p.rm p.rc] U (CopPost U p.rs p.rm)) := fun U hU => dcopied_b p.rA p.rm p.rc p.rs U HMV0.out.p0.rl (by omega) (HMV0.out.below hU).pat.rows (HMV0.out.below hU).pat.ra
                have hp50 : p.rm ≤ 50000 := by omega
                have HRO : Hid (∀ (U U' : World) (v : Value) (rl : List Rd), CI U p.rs p.rm v rl U' → ros rl = ps) := fun U U' v rl h => by rw [h.eq, List.take_of_length_le (by rw [ros_len, HMV0.out.p0.rl]; exact Nat.le_refl _)]; exact HPS.out
                have HBa : Hid (Below W0.heap.size W0 W0.drew) := (Below.refl _ _).drew
                have HBb : Hid (Below W0.heap.size W0 (W0.alloc (.cells #[.int .i64 uu] 3)).drew) := (below_alloc W0 (.cells #[.int .i64 uu] 3)).drew
                have HAPa : Hid (∀ (w5 : World) (R : Option Addr) (rc : Nat) (rl : List Rd), CI W0.drew p.rs p.rm (.slice R p.rm rc) rl w5 → ∃ v' w', (Builtin.append_ #[29, 29] 29 #[.slice R p.rm rc, .slice (some ⟨w5.heap.size + 1, 0, none⟩) 1 1]).run Tryz.prog ((w5.alloc (.cells #[.int .i64 uu] 3)).alloc (.cells #[.int .i64 tid, .slice (some ⟨w5.heap.size, 0, none⟩) 1 1] 49)) = .ok v' w' ∧ ∃ A' c' l', v' = .slice A' (p.rm + 1) c' ∧ Hid (Below W0.heap.size W0 w' ∧ QLs w' W0.heap.size (.slice A' (p.rm + 1) c') l' ∧ ros l' = ps ++ [⟨tid, [uu]⟩] ∧ l'.length = p.rm + 1)) := fun w5 R rc rl h => by
                  have hb5 : Below W0.heap.size W0 w5 := below_next HBa.out h.bel
                  have hba : Below w5.heap.size w5 (w5.alloc (.cells #[.int .i64 uu] 3)) := below_alloc _ _
                  have hst : St (w5.alloc (.cells #[.int .i64 uu] 3)) W0.heap.size (Value.slice R p.rm rc).ownBlock fun W' => RAt W' ⟨tid, some ⟨w5.heap.size, 0, none⟩, 1, 1, [uu]⟩ := (St.ints (ints1 w5 uu 3) fun ad e => by
                    obtain rfl := Option.some.inj e
                    refine ⟨hb5.size, fun e => ?_⟩
                    have := (h.q.own.lt _ e.symm).2
                    simp only at this
                    omega).imp fun W' h => ⟨rfl, by show 1 ≤ 1000; omega, h⟩
                  obtain ⟨v', w', h1, A', c', e, h2⟩ := ((h.q.lower (by exact Nat.le_refl _)).below hba).one' h.len (Nat.le_trans hb5.size hba.size) ⟨tid, some ⟨w5.heap.size, 0, none⟩, 1, 1, [uu]⟩ hst (Nat.le_refl _) hp50
                  rw [← size_one w5 (.cells #[.int .i64 uu] 3)] at h1
                  refine ⟨v', w', h1, A', c', _, e, (below_next hb5 hba).trans h2.out.2, h2.out.1, ?_, by rw [List.length_append, h.len]; rfl⟩
                  rw [ros_snoc, HRO.out _ _ _ _ h]
                  rfl
                have HAPb : Hid (∀ (w5 : World) (R : Option Addr) (rc : Nat) (rl : List Rd), CI (W0.alloc (.cells #[.int .i64 uu] 3)).drew p.rs p.rm (.slice R p.rm rc) rl w5 → ∃ v' w', (Builtin.append_ #[29, 29] 29 #[.slice R p.rm rc, .slice (some ⟨w5.heap.size, 0, none⟩) 1 1]).run Tryz.prog (w5.alloc (.cells #[.int .i64 tid, .slice (some ⟨W0.heap.size, 0, none⟩) 1 1] 49)) = .ok v' w' ∧ ∃ A' c' l', v' = .slice A' (p.rm + 1) c' ∧ Hid (Below W0.heap.size W0 w' ∧ QLs w' W0.heap.size (.slice A' (p.rm + 1) c') l' ∧ ros l' = ps ++ [⟨tid, [uu]⟩] ∧ l'.length = p.rm + 1)) := fun w5 R rc rl h => by
                  have hb5 : Below W0.heap.size W0 w5 := below_next HBb.out h.bel
                  have hU1 : W0.heap.size + 1 = (W0.alloc (.cells #[.int .i64 uu] 3)).drew.heap.size := size_one W0 (.cells #[.int .i64 uu] 3)
                  have hbx : Box w5 W0.heap.size #[.int .i64 uu] 3 := (show Box (W0.alloc (.cells #[.int .i64 uu] 3)).drew W0.heap.size #[.int .i64 uu] 3 from Box.new W0 _ _).below h.bel
                  have hst : St w5 W0.heap.size (Value.slice R p.rm rc).ownBlock fun W' => RAt W' ⟨tid, some ⟨W0.heap.size, 0, none⟩, 1, 1, [uu]⟩ := (St.ints (box_ints hbx (by simp)) fun ad e => by
                    obtain rfl := Option.some.inj e
                    refine ⟨Nat.le_refl _, fun e => ?_⟩
                    have := (h.q.own.lt _ e.symm).1
                    simp only at this
                    omega).imp fun W' h => ⟨rfl, by show 1 ≤ 1000; omega, h⟩
                  obtain ⟨v', w', h1, A', c', e, h2⟩ := (h.q.lower (a := W0.heap.size) (by omega)).one' h.len hb5.size ⟨tid, some ⟨W0.heap.size, 0, none⟩, 1, 1, [uu]⟩ hst (Nat.le_refl _) hp50
                  refine ⟨v', w', h1, A', c', _, e, hb5.trans h2.out.2, h2.out.1, ?_, by rw [List.length_append, h.len]; rfl⟩
                  rw [ros_snoc, HRO.out _ _ _ _ h]
                  rfl
                have HBc : Hid (Below W0.heap.size W0 ((W0.alloc (.cells #[.int .i64 uu] 3)).alloc (.cells #[.int .i64 tid, .slice (some ⟨W0.heap.size, 0, none⟩) 1 1] 49)).drew) := (below_more (below_alloc W0 (.cells #[.int .i64 uu] 3)) (.cells #[.int .i64 tid, .slice (some ⟨W0.heap.size, 0, none⟩) 1 1] 49)).drew
                have HAPc : Hid (∀ (w5 : World) (R : Option Addr) (rc : Nat) (rl : List Rd), CI ((W0.alloc (.cells #[.int .i64 uu] 3)).alloc (.cells #[.int .i64 tid, .slice (some ⟨W0.heap.size, 0, none⟩) 1 1] 49)).drew p.rs p.rm (.slice R p.rm rc) rl w5 → ∃ v' w', (Builtin.append_ #[29, 29] 29 #[.slice R p.rm rc, .slice (some ⟨W0.heap.size + 1, 0, none⟩) 1 1]).run Tryz.prog w5 = .ok v' w' ∧ ∃ A' c' l', v' = .slice A' (p.rm + 1) c' ∧ Hid (Below W0.heap.size W0 w' ∧ QLs w' W0.heap.size (.slice A' (p.rm + 1) c') l' ∧ ros l' = ps ++ [⟨tid, [uu]⟩] ∧ l'.length = p.rm + 1)) := fun w5 R rc rl h => by
                  have hb5 : Below W0.heap.size W0 w5 := below_next HBc.out h.bel
                  have hU1 : W0.heap.size + 2 = ((W0.alloc (.cells #[.int .i64 uu] 3)).alloc (.cells #[.int .i64 tid, .slice (some ⟨W0.heap.size, 0, none⟩) 1 1] 49)).drew.heap.size := by
                    show W0.heap.size + 2 = ((W0.alloc (.cells #[.int .i64 uu] 3)).alloc (.cells #[.int .i64 tid, .slice (some ⟨W0.heap.size, 0, none⟩) 1 1] 49)).heap.size
                    simp
                  have hbx : Box w5 W0.heap.size #[.int .i64 uu] 3 := (show Box ((W0.alloc (.cells #[.int .i64 uu] 3)).alloc (.cells #[.int .i64 tid, .slice (some ⟨W0.heap.size, 0, none⟩) 1 1] 49)).drew W0.heap.size #[.int .i64 uu] 3 from (Box.new W0 _ _).below (below_alloc (W0.alloc (.cells #[.int .i64 uu] 3)) (.cells #[.int .i64 tid, .slice (some ⟨W0.heap.size, 0, none⟩) 1 1] 49)).drew).below h.bel
                  have hby : Box w5 (W0.heap.size + 1) #[.int .i64 tid, .slice (some ⟨W0.heap.size, 0, none⟩) 1 1] 49 := (show Box ((W0.alloc (.cells #[.int .i64 uu] 3)).alloc (.cells #[.int .i64 tid, .slice (some ⟨W0.heap.size, 0, none⟩) 1 1] 49)).drew (W0.heap.size + 1) #[.int .i64 tid, .slice (some ⟨W0.heap.size, 0, none⟩) 1 1] 49 from by rw [size_one W0 (.cells #[.int .i64 uu] 3)]; exact Box.new (W0.alloc (.cells #[.int .i64 uu] 3)) _ _).below h.bel
                  have hrow : RowsR w5 (some ⟨W0.heap.size + 1, 0, none⟩) [⟨tid, some ⟨W0.heap.size, 0, none⟩, 1, 1, [uu]⟩] := fun k s hk => by
                    have hk0 : k = 0 := by have := (List.getElem?_eq_some_iff.1 hk).1; simp at this; exact this
                    subst hk0
                    obtain rfl : (⟨tid, some ⟨W0.heap.size, 0, none⟩, 1, 1, [uu]⟩ : Rd) = s := by simpa using hk
                    refine ⟨_, rfl, ?_, ?_⟩
                    · rw [add_flat]; exact hby.cell 0 _ rfl
                    · rw [add_flat]; exact hby.cell 1 _ rfl
                  have hst : St w5 W0.heap.size (Value.slice R p.rm rc).ownBlock fun W' => RAt W' ⟨tid, some ⟨W0.heap.size, 0, none⟩, 1, 1, [uu]⟩ := (St.ints (box_ints hbx (by simp)) fun ad e => by
                    obtain rfl := Option.some.inj e
                    refine ⟨Nat.le_refl _, fun e => ?_⟩
                    have := (h.q.own.lt _ e.symm).1
                    simp only at this
                    omega).imp fun W' h => ⟨rfl, by show 1 ≤ 1000; omega, h⟩
                  obtain ⟨v', w', h1, A', c', e, h2⟩ := (h.q.lower (a := W0.heap.size) (by omega)).app hb5.size (some ⟨W0.heap.size + 1, 0, none⟩) 1 1 [⟨tid, some ⟨W0.heap.size, 0, none⟩, 1, 1, [uu]⟩] rfl hrow (fun q hq => by obtain rfl := List.mem_singleton.1 hq; exact hst) (fun q hq => by obtain rfl := List.mem_singleton.1 hq; exact Nat.le_refl 1) (by rw [h.len]; omega) (p.rm + 1) (by rw [List.length_append, h.len]; rfl)
                  refine ⟨v', w', h1, A', c', _, e, hb5.trans h2.out.2.1, h2.out.1, ?_, by rw [List.length_append, h.len]; rfl⟩
                  rw [ros_snoc, HRO.out _ _ _ _ h]
                  rfl
                have HYa : Hid (∀ (U w5 : World) (v : Value) (rl : List Rd), Below W0.heap.size W0 U → CI U p.rs p.rm v rl w5 → Below W0.heap.size W0 w5) := fun U w5 v rl h1 h2 => below_next h1 h2.bel
                clear hB hU hcu k0
                go_upto_region 26 with fail
                clear d0
                go_cut [14] (fun s14 Wc => ∃ (A6 : Option Addr) (c6 : Nat) (l6 : List Rd) (V6 : World), V6 = Wc ∧ s14 = .slice A6 (p.rm + 1) c6 ∧ Hid (Below W0.heap.size W0 V6 ∧ QLs V6 W0.heap.size (.slice A6 (p.rm + 1) c6) l6 ∧ ros l6 = ps ++ [⟨tid, [uu]⟩] ∧ l6.length = p.rm + 1))
                case first => as_aux_lemma =>
                  obtain ⟨y0, y1, y2, y3, y4⟩ := HY.out W0 (Below.refl _ _)
                  obtain ⟨z0, z1, z2, z3, z4⟩ := HY.out (W0.alloc (.cells #[.int .i64 uu] 3)) (below_alloc _ _)
                  obtain ⟨v0, _⟩ := HY.out ((W0.alloc (.cells #[.int .i64 uu] 3)).alloc (.cells #[.int .i64 tid, .slice (some ⟨W0.heap.size, 0, none⟩) 1 1] 49)) (below_more (below_alloc _ _) _)
                  have HYS : Hid (∀ U, Below W0.heap.size W0 U → (U.cell? ⟨b1 + 1, 0, none⟩ = some (.slice p.rA p.rm p.rc) ∧ U.cell? ⟨b1 + 1, 1, none⟩ = some (.slice (some ua) p.um p.uc) ∧ U.cell? (ua.add u) = some (.int .i64 uu) ∧ U.cell? ⟨b1, 4, none⟩ = some (.slice (some bd) x.k x.d) ∧ U.cell? (bd.add (t * 7)) = some (.int .i64 tid) ∧ Below W0.heap.size W0 U)) := fun U hU => by
                    obtain ⟨h0, h1, h2, h3, h4⟩ := HY.out U hU
                    exact ⟨h0, h1, h2, h3, h4, hU⟩
                  go_region_held3 (fun U : World => (U.cell? ⟨b1 + 1, 0, none⟩ = some (.slice p.rA p.rm p.rc) ∧ U.cell? ⟨b1 + 1, 1, none⟩ = some (.slice (some ua) p.um p.uc) ∧ U.cell? (ua.add u) = some (.int .i64 uu) ∧ U.cell? ⟨b1, 4, none⟩ = some (.slice (some bd) x.k x.d) ∧ U.cell? (bd.add (t * 7)) = some (.int .i64 tid) ∧ Below W0.heap.size W0 U)) (first | exact HYS.out _ HF.out.1 | exact HYS.out _ HBa.out | exact HYS.out _ HBb.out | exact HYS.out _ HBc.out | exact HYS.out _ hq5 | exact HYS.out _ (below_next hq5 (below_alloc _ _)) | exact HYS.out _ (below_more (below_next hq5 (below_alloc _ _)) _) | assumption) (first
                    | (refine step_append_w ((w5.alloc (.cells #[.int .i64 uu] 3)).alloc (.cells #[.int .i64 tid, .slice (some ⟨w5.heap.size, 0, none⟩) 1 1] 49)) (by with_reducible rfl) (by rfl) (.tmp 107) (.tmp 121) 29 29 29 (by rfl) (by rfl) (.slice R p.rm rc) (.slice (some ⟨w5.heap.size + 1, 0, none⟩) 1 1) (by rfl) (by rfl) _ HAP1.out ?_
                       rintro v2 w6 ⟨A6, c6, l6, rfl, HF⟩)
                    | (refine step_append_w (w5.alloc (.cells #[.int .i64 tid, .slice (some ⟨W0.heap.size, 0, none⟩) 1 1] 49)) (by with_reducible rfl) (by rfl) (.tmp 107) (.tmp 121) 29 29 29 (by rfl) (by rfl) (.slice R p.rm rc) (.slice (some ⟨w5.heap.size, 0, none⟩) 1 1) (by rfl) (by rfl) _ HAP2.out ?_
                       rintro v2 w6 ⟨A6, c6, l6, rfl, HF⟩)
                    | (refine step_append_w w5 (by with_reducible rfl) (by rfl) (.tmp 107) (.tmp 121) 29 29 29 (by rfl) (by rfl) (.slice R p.rm rc) (.slice (some ⟨W0.heap.size + 1, 0, none⟩) 1 1) (by rfl) (by rfl) _ HAP3.out ?_
                       rintro v2 w6 ⟨A6, c6, l6, rfl, HF⟩)
                    | (go_at_call 55; ((with_reducible refine (HC.out (W0.drew) HBa.out).mono ?_)); rintro e w5 ⟨R, rc, rl, rfl, HCI⟩
                       have HAP1 := Lib.hid (HAPa.out _ _ _ _ HCI.out)
                       have hq5 := HYa.out _ _ _ _ HBa.out HCI.out)
                    | (go_at_call 55; ((with_reducible refine (HC.out ((W0.alloc (.cells #[.int .i64 uu] 3)).drew) HBb.out).mono ?_)); rintro e w5 ⟨R, rc, rl, rfl, HCI⟩
                       have HAP2 := Lib.hid (HAPb.out _ _ _ _ HCI.out)
                       have hq5 := HYa.out _ _ _ _ HBb.out HCI.out)
                    | (go_at_call 55; ((with_reducible refine (HC.out (((W0.alloc (.cells #[.int .i64 uu] 3)).alloc (.cells #[.int .i64 tid, .slice (some ⟨W0.heap.size, 0, none⟩) 1 1] 49)).drew) HBc.out).mono ?_)); rintro e w5 ⟨R, rc, rl, rfl, HCI⟩
                       have HAP3 := Lib.hid (HAPc.out _ _ _ _ HCI.out); have hq5 := HYa.out _ _ _ _ HBc.out HCI.out))
                  all_goals
                    clear y0 y1 y2 y3 y4 z0 z1 z2 z3 z4 v0
                    go_wp2
                    go_meet
                    case rel => exact ⟨A6, c6, l6, _, rfl, rfl, HF.out⟩
                case rest =>
                  obtain ⟨A6, c6, l6, w6, rfl, rfl, HF⟩ := hcut
                  have HB6 := Lib.hid HF.out.1
                  have HQ6 := Lib.hid HF.out.2.1
                  have HRO6 := Lib.hid HF.out.2.2.1
                  have HF6 : Hid (True ∧ l6.length = p.rm + 1) := ⟨trivial, HF.out.2.2.2⟩
                  clear HF HAPa HAPb HAPc HC HY HYa HBa HBb HBc HRO
                  have HM6 := Lib.hid (HMV0.out.below HB6.out)
                  have HC3 := Lib.hid (dmade_b x A6 (p.rm + 1) c6 l6 w6 W0.heap.size HB6.out.size HM6.out.wx.at_ HF6.out.2 (by omega) HQ6.out.rows HQ6.out.free (by rw [HRO6.out]; exact (Bt.few_snoc HSM.out.n6 (fun s hs => by have := HSM.out.at_ s hs; omega) (by simp)).tot))
                  have x0 := HM6.out.wx.c0
                  have x1 := HM6.out.wx.c1
                  have x2 := HM6.out.wx.c2
                  have x3 := HM6.out.wx.c3
                  have x4 := HM6.out.wx.c4
                  go_wp2_with fail
                  clear x0 x1 x2 x3 x4
                  with_reducible refine HC3.out.mono ?_
                  rintro e W7 ⟨q, rfl, h7⟩
                  have HAP := Lib.hid (HMV0.out.add (below_next HB6.out h7.out.1) q (h7.out.2.2.2.1) (h7.out.2.1.trans (congrArg Bt.made HRO6.out)) h7.out.2.2.1 (fun s hs => HQ6.out.cp s (h7.out.2.2.2.2 s hs)) (by have := HLEN.out; omega))
                  clear HC3 HM6 HB6 HQ6
                  go_wp2_with (at_builtin; refine wpList_append_any rfl (.tmp 123) (.tmp 127) 36 36 rfl _ _ rfl rfl _ HAP.out ?_; intro v1 w1 hc1; obtain ⟨A8, c8, l8, rfl, HM8⟩ := hc1)
                  go_roundg gt
                  case measure => omega
                  case rel => exact ⟨t + 1, A8, m + 1, c8, l8, _, rfl, by omega, by first | rfl | go_num, by first | rfl | go_num, by rw [Bt.open1_take HTI.out, if_neg (by rw [HUSED.out]; simp), ← List.append_assoc]; exact HM8.out⟩
            · obtain rfl : t = x.k := by omega
              go_wp2
              go_roundg gu
              case measure => omega
              case rel => exact ⟨u + 1, A, m, c, l, _, rfl, by omega, rfl, by first | rfl | go_num, by rw [show Bt.open2 ps (p.us.take (u + 1)) ids = Bt.open2 ps (p.us.take u) ids ++ Bt.open1 ps uu ids from Bt.flat_take _ HUU.out, ← List.append_assoc]; have h := HMV.out; rw [show ids.take x.k = ids from List.take_of_length_le (by rw [HIL.out]; exact Nat.le_refl _)] at h; exact h⟩
        · obtain rfl : u = p.um := by omega
          have HEND : Hid (MV w b1 x p (Bt.moreL ps p.us ids) A m c l W) := by
            have h := HMV.out
            rw [List.take_of_length_le (by rw [HUL.out]; exact Nat.le_refl _)] at h
            exact h
          go_wp2
          go_ret
          rw [HIDS.out]
          exact HEND.out.post
end Go.Proofs.YtgjmlnpfkmpfgaaGreat
