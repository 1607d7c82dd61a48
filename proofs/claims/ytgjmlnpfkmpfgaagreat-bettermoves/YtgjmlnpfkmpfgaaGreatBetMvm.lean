/- Texts joined: The document's answer for better: lists of moves, joined. The document's answer for better: what comes of each move. -/
import Derived.Test.YtgjmlnpfkmpfgaaGreatBetDe
import Derived.Test.YtgjmlnpfkmpfgaaGreatBetDfh
import Derived.Test.YtgjmlnpfkmpfgaaGreatPlanRxs
import Derived.Test.YtgjmlnpfkmpfgaaGreatBetPlm
import Derived.Deep.RegionHeld3
section
/-! The document's answer for better: lists of moves, joined. -/
namespace Go.Proofs.YtgjmlnpfkmpfgaaGreat
open Go.RowKit
set_option linter.unusedVariables false
set_option maxRecDepth 100000

/-- a list of plans that are what comes of moves -/
structure ML (W : World) (lo : Nat) (x : Wd) (t : List (List Pl.Ro)) (A : Option Addr) (m c : Nat) (l : List Pd) : Prop where
  ls : PLs W lo (.slice A m c) l
  len : l.length = m
  eq : (l.map fun q => ros q.rs) = t.map Bt.made
  us : ∀ q ∈ l, q.us = Pl.restS x.os (ros q.rs)
  cp : ∀ q ∈ l, ∀ r ∈ q.rs, r.sm ≤ r.sc
theorem ML.below {W W' : World} {lo m c : Nat} {x : Wd} {t : List (List Pl.Ro)} {A : Option Addr} {l : List Pd} (h : ML W lo x t A m c l) (hb : Below W.heap.size W W') : ML W' lo x t A m c l := ⟨h.ls.below hb, h.len, h.eq, h.us, h.cp⟩
theorem ML.own {W : World} {lo m c : Nat} {x : Wd} {t : List (List Pl.Ro)} {A : Option Addr} {l : List Pd} (h : ML W lo x t A m c l) : ∀ k, (Value.slice A m c).ownBlock = some k → lo ≤ k ∧ k < W.heap.size := fun k e => h.ls.own.lt k e
/-- a later list is what it was, while an earlier one grows -/
theorem ML.keep {W w' : World} {lo m c b : Nat} {x : Wd} {t : List (List Pl.Ro)} {A : Option Addr} {l : List Pd} {v v' : Value} (h : ML W lo x t A m c l) (ho : ∀ k, v.ownBlock = some k → k < lo) (hn : Nw W w' v v') (hb : Below b W w') : ML w' lo x t A m c l := by
  have hk : ∀ k, lo ≤ k → k < W.heap.size → w'.heap[k]? = W.heap[k]? := fun k h1 h2 => hn.1 k h2 fun e => by have := ho k e; omega
  refine ⟨⟨?_, fun q hq => (h.ls.st q hq).step (fun k h1 h2 _ => hk k h1 h2) (fun k h1 _ h2 => ⟨h1, h2⟩) hb.size⟩, h.len, h.eq, h.us, h.cp⟩
  obtain ⟨h1, h2⟩ := h.ls.own
  refine ⟨h1, ?_⟩
  rcases h2 with h2 | ⟨g, cap, cur, hv, hg, hh, r⟩
  · exact .inl h2
  · exact .inr ⟨g, cap, cur, hv, hg, (hk g hg (Array.getElem?_eq_some_iff.1 hh).1).trans hh, r⟩
theorem ML.app2 {W0 W : World} {lo lo2 m c m2 c2 : Nat} {x : Wd} {t t2 : List (List Pl.Ro)} {A B : Option Addr} {l l2 : List Pd} (h : ML W lo x t A m c l) (h2 : ML W0 lo2 x t2 B m2 c2 l2) (hk : ∀ k, lo2 ≤ k → k < W0.heap.size → W.heap[k]? = W0.heap[k]?) (h0 : W0.heap.size ≤ W.heap.size) (hlo : lo ≤ W.heap.size) (hl : lo ≤ lo2)
    (ho : ∀ k, (Value.slice A m c).ownBlock = some k → k < lo2 ∨ W0.heap.size ≤ k) (hs : m + m2 ≤ 100000) :
    ∃ v' w', (Builtin.append_ #[36, 36] 36 #[.slice A m c, .slice B m2 c2]).run Tryz.prog W = .ok v' w' ∧ ∃ A' c', v' = .slice A' (m + m2) c' ∧ Hid (ML w' lo x (t ++ t2) A' (m + m2) c' (l ++ l2) ∧ Below lo W w' ∧ Nw W w' (.slice A m c) (.slice A' (m + m2) c')) := by
  have hrow0 : OwnP W lo2 (.slice B m2 c2) l2 := by
    obtain ⟨h1, h3⟩ := h2.ls.own
    refine ⟨h1, ?_⟩
    rcases h3 with h3 | ⟨g, cap, cur, hv, hg, hh, r⟩
    · exact .inl h3
    · exact .inr ⟨g, cap, cur, hv, hg, (hk g hg (Array.getElem?_eq_some_iff.1 hh).1).trans hh, r⟩
  obtain ⟨B', cB, e, _, _, hrow, _⟩ := hrow0.row
  injection e with e1 e2 e3
  obtain ⟨v', w', h3, A', c', e, h4⟩ := h.ls.app hlo B m2 c2 l2 h2.len (by rw [e1]; exact hrow) (fun q hq W' ha => h2.ls.st q hq W' fun k k1 k2 k3 => (ha k (Nat.le_trans hl k1) (Nat.lt_of_lt_of_le k2 h0) fun e => by rcases ho k e.symm with h5 | h5 <;> omega).trans (hk k k1 k2)) (by rw [h.len]; exact hs) (m + m2) (by rw [List.length_append, h.len, h2.len])
  refine ⟨v', w', h3, A', c', e, ⟨h4.out.1, by rw [List.length_append, h.len, h2.len], by rw [List.map_append, List.map_append, h.eq, h2.eq], fun q hq => (List.mem_append.1 hq).elim (h.us q) (h2.us q), fun q hq => (List.mem_append.1 hq).elim (h.cp q) (h2.cp q)⟩, h4.out.2.1, h4.out.2.2⟩
theorem ML.num {W : World} {lo m c : Nat} {x : Wd} {t : List (List Pl.Ro)} {A : Option Addr} {l : List Pd} (h : ML W lo x t A m c l) : m = t.length := by
  have := congrArg List.length h.eq
  rw [List.length_map, List.length_map, h.len] at this
  exact this
theorem MovPost.ml {w w' : World} {x : Wd} {t : List (List Pl.Ro)} {e : Ending} (h : MovPost w x t e w') : ∃ A m c l, e = .returned (.slice A m c) ∧ Hid (Below w.heap.size w w' ∧ ML w' w.heap.size x t A m c l) := by
  obtain ⟨A, m, c, l, e, h⟩ := h
  exact ⟨A, m, c, l, e, h.out.1, h.out.2.1, h.out.2.2.1, h.out.2.2.2.1, h.out.2.2.2.2.1, h.out.2.2.2.2.2⟩
end Go.Proofs.YtgjmlnpfkmpfgaaGreat
end

section
/-! The document's answer for better: what comes of each move. -/
namespace Go.Proofs.YtgjmlnpfkmpfgaaGreat
open Go.RowKit
set_option linter.unusedVariables false
set_option maxRecDepth 100000

set_option maxHeartbeats 2000000 in
theorem dmoves_no (x : Wd) (p : Pd) (w : World) (z : Int) (hc : Pl.checkS x.N x.D x.T x.os x.ts (ros p.rs) p.us = (0, z)) (hz : z ≠ 0) (hx : WAt w x) (hp : PAt w p) :
    Calls Tryz.prog 11 #[.agg #[.int .i64 x.N, .slice x.dA x.dm x.dc, .slice x.tA x.tm x.tc, .slice x.A x.m x.c, .slice x.B x.k x.d], .agg #[.slice p.rA p.rm p.rc, .slice p.uA p.um p.uc]] w fun e w' => ∃ A c, e = .returned (.slice A 0 c) ∧ Hid (Below w.heap.size w w') := by
  have HW := Lib.hid (WPB.new hx hp)
  have HB0 : Hid (Below w.heap.size w ((w.alloc (.cells #[.int .i64 x.N, .slice x.dA x.dm x.dc, .slice x.tA x.tm x.tc, .slice x.A x.m x.c, .slice x.B x.k x.d] 28)).alloc (.cells #[.slice p.rA p.rm p.rc, .slice p.uA p.um p.uc] 32))) := below_more (below_alloc _ _) _
  have HCK := Lib.hid (dcheck_b x p _ (0, z) hc HW.out.w.at_ HW.out.p.at_)
  have d1 : (z != 0) = true := by simpa using hz
  have x0 := HW.out.w.c0
  have x1 := HW.out.w.c1
  have x2 := HW.out.w.c2
  have x3 := HW.out.w.c3
  have x4 := HW.out.w.c4
  have y0 := HW.out.p.c0
  have y1 := HW.out.p.c1
  clear hx hp hc
  go_enter Tryz.func11, Tryz.ntmps11
  go_wp2_with fail
  clear x0 x1 x2 x3 x4 y0 y1
  with_reducible refine HCK.out.mono ?_
  rintro e w1 ⟨rfl, hb1⟩
  have HB1 := Lib.hid (below_next HB0.out hb1.out)
  have HB2 := Lib.hid (below_more HB1.out (.cells #[] 32))
  go_wp2
  go_ret
  exact ⟨_, _, rfl, HB2.out⟩

set_option maxHeartbeats 4000000 in
theorem dmoves_yes (x : Wd) (p : Pd) (w : World) (z : Int) (hc : Pl.checkS x.N x.D x.T x.os x.ts (ros p.rs) p.us = (z, 0)) (hx : WAt w x) (hp : PAt w p) (hcap : ∀ r ∈ p.rs, r.sm ≤ r.sc) :
    Calls Tryz.prog 11 #[.agg #[.int .i64 x.N, .slice x.dA x.dm x.dc, .slice x.tA x.tm x.tc, .slice x.A x.m x.c, .slice x.B x.k x.d], .agg #[.slice p.rA p.rm p.rc, .slice p.uA p.um p.uc]] w (MovPost w x (Bt.moreL (ros p.rs) p.us (x.ts.map Ld.T.id) ++ Bt.movedL (ros p.rs) ++ Bt.swapL (ros p.rs))) := by
  have hmay := (Pl.may_of (by rw [hc])).1
  have HSM := Lib.hid (Bt.sm_of hmay)
  have HLEN := Lib.hid (Bt.movesL_len (Bt.sm_of hmay).1 (Bt.sm_of hmay).2.1 (Bt.sm_of hmay).2.2)
  have HW := Lib.hid (WPB.new hx hp)
  have HCAP := Lib.hid hcap
  have HB0 : Hid (Below w.heap.size w ((w.alloc (.cells #[.int .i64 x.N, .slice x.dA x.dm x.dc, .slice x.tA x.tm x.tc, .slice x.A x.m x.c, .slice x.B x.k x.d] 28)).alloc (.cells #[.slice p.rA p.rm p.rc, .slice p.uA p.um p.uc] 32))) := below_more (below_alloc _ _) _
  have HCK := Lib.hid (dcheck_b x p _ (z, 0) hc HW.out.w.at_ HW.out.p.at_)
  have x0 := HW.out.w.c0
  have x1 := HW.out.w.c1
  have x2 := HW.out.w.c2
  have x3 := HW.out.w.c3
  have x4 := HW.out.w.c4
  have y0 := HW.out.p.c0
  have y1 := HW.out.p.c1
  clear hx hp hc hmay hcap
  go_enter Tryz.func11, Tryz.ntmps11
  go_wp2_with fail
  clear x0 x1 x2 x3 x4 y0 y1
  generalize (w.alloc (.cells #[.int .i64 x.N, .slice x.dA x.dm x.dc, .slice x.tA x.tm x.tc, .slice x.A x.m x.c, .slice x.B x.k x.d] 28)).alloc (.cells #[.slice p.rA p.rm p.rc, .slice p.uA p.um p.uc] 32) = V at *
  with_reducible refine HCK.out.mono ?_
  rintro e w1 ⟨rfl, hb1⟩
  have HB1 := Lib.hid (below_next HB0.out hb1.out)
  have HW1 := Lib.hid (HW.out.below hb1.out)
  clear HW HB0 HCK hb1
  have HLN : Hid ((Bt.moreL (ros p.rs) p.us (x.ts.map Ld.T.id)).length + (Bt.movedL (ros p.rs)).length + (Bt.swapL (ros p.rs)).length ≤ 20000) := by
    have h := HLEN.out
    unfold Bt.movesL at h
    rw [List.length_map, List.length_append, List.length_append] at h
    exact h
  have hk6 : x.k ≤ 6 := by have := HSM.out.2.2; rw [List.length_map, HW1.out.w.at_.kl] at this; exact this
  have HC1 : Hid (∀ U, Below w1.heap.size w1 U → Calls Tryz.prog 25 #[.agg #[.int .i64 x.N, .slice x.dA x.dm x.dc, .slice x.tA x.tm x.tc, .slice x.A x.m x.c, .slice x.B x.k x.d], .agg #[.slice p.rA p.rm p.rc, .slice p.uA p.um p.uc]] U (MovPost U x (Bt.moreL (ros p.rs) p.us (x.ts.map Ld.T.id)))) := fun U hU => dmore_b x p U (HW1.out.below hU).w.at_ (HW1.out.below hU).p.at_ HSM.out.1 HSM.out.2.1 hk6
  have HC2 : Hid (∀ U, Below w1.heap.size w1 U → Calls Tryz.prog 26 #[.agg #[.int .i64 x.N, .slice x.dA x.dm x.dc, .slice x.tA x.tm x.tc, .slice x.A x.m x.c, .slice x.B x.k x.d], .agg #[.slice p.rA p.rm p.rc, .slice p.uA p.um p.uc]] U (MovPost U x (Bt.movedL (ros p.rs)))) := fun U hU => dmoved_b x p U (HW1.out.below hU).w.at_ (HW1.out.below hU).p.at_ HSM.out.1
  have HC3 : Hid (∀ U, Below w1.heap.size w1 U → Calls Tryz.prog 27 #[.agg #[.int .i64 x.N, .slice x.dA x.dm x.dc, .slice x.tA x.tm x.tc, .slice x.A x.m x.c, .slice x.B x.k x.d], .agg #[.slice p.rA p.rm p.rc, .slice p.uA p.um p.uc]] U (MovPost U x (Bt.swapL (ros p.rs)))) := fun U hU => dswapped_b x p U (HW1.out.below hU).w.at_ (HW1.out.below hU).p.at_ HSM.out.1 HCAP.out
  have HYS : Hid (∀ U, Below w1.heap.size w1 U → U.cell? ⟨w.heap.size, 0, none⟩ = some (.int .i64 x.N) ∧ U.cell? ⟨w.heap.size, 1, none⟩ = some (.slice x.dA x.dm x.dc) ∧ U.cell? ⟨w.heap.size, 2, none⟩ = some (.slice x.tA x.tm x.tc) ∧ U.cell? ⟨w.heap.size, 3, none⟩ = some (.slice x.A x.m x.c) ∧ U.cell? ⟨w.heap.size, 4, none⟩ = some (.slice x.B x.k x.d) ∧ U.cell? ⟨w.heap.size + 1, 0, none⟩ = some (.slice p.rA p.rm p.rc) ∧ U.cell? ⟨w.heap.size + 1, 1, none⟩ = some (.slice p.uA p.um p.uc)) := fun U hU =>
    ⟨(HW1.out.below hU).w.c0, (HW1.out.below hU).w.c1, (HW1.out.below hU).w.c2, (HW1.out.below hU).w.c3, (HW1.out.below hU).w.c4, (HW1.out.below hU).p.c0, (HW1.out.below hU).p.c1⟩
  have HBd : Hid (Below w1.heap.size w1 w1.drew) := (Below.refl _ _).drew
  clear hk6
  go_wp2
  go_region_held3 (fun U : World => U.cell? ⟨w.heap.size, 0, none⟩ = some (.int .i64 x.N) ∧ U.cell? ⟨w.heap.size, 1, none⟩ = some (.slice x.dA x.dm x.dc) ∧ U.cell? ⟨w.heap.size, 2, none⟩ = some (.slice x.tA x.tm x.tc) ∧ U.cell? ⟨w.heap.size, 3, none⟩ = some (.slice x.A x.m x.c) ∧ U.cell? ⟨w.heap.size, 4, none⟩ = some (.slice x.B x.k x.d) ∧ U.cell? ⟨w.heap.size + 1, 0, none⟩ = some (.slice p.rA p.rm p.rc) ∧ U.cell? ⟨w.heap.size + 1, 1, none⟩ = some (.slice p.uA p.um p.uc)) (first | exact HYS.out _ HBd.out | exact HYS.out _ hb6 | exact HYS.out _ hb5 | exact HYS.out _ hb4 | exact HYS.out _ hb3 | exact HYS.out _ hb2 | assumption) (first
    | (go_at_call 25; with_reducible refine (HC1.out _ HBd.out).mono ?_; rintro e w2 hp
       obtain ⟨A1, m1, c1, l1, rfl, h1⟩ := hp.ml
       have hb2 := below_next HBd.out h1.out.1)
    | (go_at_call 26; with_reducible refine (HC2.out _ hb2).mono ?_; rintro e w3 hp
       obtain ⟨A2, m2, c2, l2, rfl, h2⟩ := hp.ml
       have hb3 := below_next hb2 h2.out.1
       have HNM : Hid (m1 + m2 + (Bt.swapL (ros p.rs)).length ≤ 20000) := by
         have e1 := h1.out.2.num
         have e2 := h2.out.2.num
         rw [e1, e2]
         exact HLN.out
       have HAP1 := Lib.hid ((h1.out.2.below h2.out.1).app2 h2.out.2 (fun _ _ _ => rfl) (Nat.le_refl _) hb3.size h1.out.1.size (fun k e => .inl (h1.out.2.own k e).2) (by have := HNM.out; omega)))
    | (go_at_call 27; with_reducible refine (HC3.out w4 hb4).mono ?_; rintro e w5 hp
       obtain ⟨A3, m3, c3, l3, rfl, h3⟩ := hp.ml
       have hb5 := below_next hb4 h3.out.1
       have HAP2 := Lib.hid ((h4.out.1.below h3.out.1).app2 h3.out.2 (fun _ _ _ => rfl) (Nat.le_refl _) hb5.size hb4.size (fun k e => .inl (h4.out.1.own k e).2) (by have := HNM.out; have := h3.out.2.num; omega)))
    | (go_at_call 27; with_reducible refine (HC3.out w3 hb3).mono ?_; rintro e w5 hp
       obtain ⟨A3, m3, c3, l3, rfl, h3⟩ := hp.ml
       have hb5 := below_next hb3 h3.out.1
       have HAP3 := Lib.hid (((h1.out.2.below h2.out.1).below h3.out.1).app2 (h2.out.2.below h3.out.1) (fun _ _ _ => rfl) (Nat.le_refl _) hb5.size h1.out.1.size (fun k e => .inl (h1.out.2.own k e).2) (by have := HNM.out; omega)))
    | (refine step_append_w w3 (by with_reducible rfl) (by rfl) (.tmp 18) (.tmp 21) 36 36 36 (by rfl) (by rfl) (.slice A1 m1 c1) (.slice A2 m2 c2) (by rfl) (by rfl) _ HAP1.out ?_
       rintro v4 w4 ⟨A4, c4, rfl, h4⟩
       have hb4 := hb3.trans h4.out.2.1)
    | (refine step_append_w w5 (by with_reducible rfl) (by rfl) (.tmp 18) (.tmp 21) 36 36 36 (by rfl) (by rfl) (.slice A1 m1 c1) (.slice A2 m2 c2) (by rfl) (by rfl) _ HAP3.out ?_
       rintro v4 w4 ⟨A4, c4, rfl, h4⟩
       have hb4 := hb5.trans h4.out.2.1
       have HAP4 := Lib.hid (h4.out.1.app2 (W0 := w5) h3.out.2 (fun k k1 k2 => h4.out.2.2.1 k k2 (fun e => by have e5 := (h1.out.2.own k e).2; have e6 := h2.out.1.size; omega)) h4.out.2.1.size hb4.size hb3.size (fun k e => by
         rcases h4.out.2.2.2 with e2 | ⟨K, e3, hK⟩
         · rw [e2] at e
           have e5 := (h1.out.2.own k e).2
           have e6 := h2.out.1.size
           exact .inl (by omega)
         · rw [e3] at e
           have := Option.some.inj e
           exact .inr (by omega)) (by have := HNM.out; have := h3.out.2.num; omega)))
    | (refine step_append_w w5 (by with_reducible rfl) (by rfl) (.tmp 22) (.tmp 25) 36 36 36 (by rfl) (by rfl) (.slice A4 (m1 + m2) c4) (.slice A3 m3 c3) (by rfl) (by rfl) _ HAP2.out ?_
       rintro v6 w6 ⟨A6, c6, rfl, h6⟩
       have hb6 := hb5.trans h6.out.2.1)
    | (refine step_append_w w4 (by with_reducible rfl) (by rfl) (.tmp 22) (.tmp 25) 36 36 36 (by rfl) (by rfl) (.slice A4 (m1 + m2) c4) (.slice A3 m3 c3) (by rfl) (by rfl) _ HAP4.out ?_
       rintro v6 w6 ⟨A6, c6, rfl, h6⟩
       have hb6 := hb4.trans h6.out.2.1))
  all_goals
    have HF := Lib.hid h6.out.1
    have HB6 := Lib.hid (below_next HB1.out hb6)
    go_wp2
    go_ret
    exact ⟨A6, _, c6, _, rfl, HB6.out, HF.out.ls.lower HB1.out.size, HF.out.len, HF.out.eq, HF.out.us, HF.out.cp⟩
end Go.Proofs.YtgjmlnpfkmpfgaaGreat
end
