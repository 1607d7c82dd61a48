/- Texts joined: Package better: a plan of those routes that have stops. Package better: the iterators' makers, and the one that goes through what comes of each move of a plan, kind by kind. -/
import Derived.Test.YtgjmlnpfkmpfgaaGreatBetDabc
import Derived.Test.YtgjmlnpfkmpfgaaGreatBetPo
import Derived.Test.YtgjmlnpfkmpfgaaGreatPlanAB
section
/-! Package better: a plan of those routes that have stops. -/
namespace Go.Proofs.YtgjmlnpfkmpfgaaGreat
open Go.RowKit
set_option linter.unusedVariables false
set_option maxRecDepth 100000

/-- what a call that tells a plan of routes leaves: a plan of its own -/
def PlanPost (w : World) (x : Wd) (rs : List Rd) (e : Ending) (w' : World) : Prop := ∃ q : Pd, e = .returned (.agg #[.slice q.rA q.rm q.rc, .slice q.uA q.um q.uc]) ∧ Hid (Below w.heap.size w w' ∧ PAt w' q ∧ ros q.rs = Bt.made (ros rs) ∧ q.us = Pl.restS x.os (ros q.rs) ∧ (∀ r ∈ q.rs, r.sm ≤ r.sc) ∧
  OwnQ w' w.heap.size (.slice q.rA q.rm q.rc) q.rs ∧ (∀ r ∈ q.rs, OwnI w' w.heap.size (.slice r.sA r.sm r.sc) r.st) ∧ OwnI w' w.heap.size (.slice q.uA q.um q.uc) q.us)
set_option maxHeartbeats 8000000 in
theorem planOf_b (x : Wd) (A : Option Addr) (n c : Nat) (rs : List Rd) (w : World) (hx : WAt w x) (hn : rs.length = n) (hn2 : n ≤ 1000) (hr : RowsR w A rs) (ha : ∀ r ∈ rs, RAt w r) (htot : (Pl.stops (ros rs)).length ≤ 10000) :
    Calls Tryz.prog 49 #[.agg #[.int .i64 x.N, .slice x.dA x.dm x.dc, .slice x.tA x.tm x.tc, .slice x.A x.m x.c, .slice x.B x.k x.d], .slice A n c] w (PlanPost w x rs) := by
  have HWA := Lib.hid hx
  have HN := Lib.hid hn
  have HR := Lib.hid hr
  have HA := Lib.hid ha
  have HTOT := Lib.hid htot
  have HMI0 : Hid (MI w w.heap.size x rs 0 none 0 0 [] (((w.alloc (.cells #[.int .i64 x.N, .slice x.dA x.dm x.dc, .slice x.tA x.tm x.tc, .slice x.A x.m x.c, .slice x.B x.k x.d] 28)).alloc (.cells #[.slice none 0 0, .slice none 0 0] 32)).alloc (.cells #[.slice none 0 0, .slice none 0 0] 32))) := by
    have e1 : (w.alloc (.cells #[.int .i64 x.N, .slice x.dA x.dm x.dc, .slice x.tA x.tm x.tc, .slice x.A x.m x.c, .slice x.B x.k x.d] 28)).heap.size = w.heap.size + 1 := by simp
    have e2 : ((w.alloc (.cells #[.int .i64 x.N, .slice x.dA x.dm x.dc, .slice x.tA x.tm x.tc, .slice x.A x.m x.c, .slice x.B x.k x.d] 28)).alloc (.cells #[.slice none 0 0, .slice none 0 0] 32)).heap.size = w.heap.size + 2 := by simp
    refine ⟨below_more (below_more (below_alloc _ _) _) _, ((WX.new hx).below (below_alloc _ _)).below (below_alloc _ _), ?_, ?_, ownQ_nil _ _, (fun r h => by cases h), rfl, rfl, rfl⟩
    · rw [← e1]; exact (Box.new _ _ _).below (below_alloc _ _)
    · rw [← e2]; exact Box.new _ _ _
  clear hx hn hr ha htot
  go_enter Tryz.func49, Tryz.ntmps49
  go_wp2_with fail
  generalize (((w.alloc (.cells #[.int .i64 x.N, .slice x.dA x.dm x.dc, .slice x.tA x.tm x.tc, .slice x.A x.m x.c, .slice x.B x.k x.d] 28)).alloc (.cells #[.slice none 0 0, .slice none 0 0] 32)).alloc (.cells #[.slice none 0 0, .slice none 0 0] 32)) = V at *
  generalize hb1 : w.heap.size = b1 at HMI0 ⊢
  have HBE := Lib.hid hb1
  clear hb1
  go_loopg [10] n (fun gk s10 Wx => ∃ (i : Nat) (rA : Option Addr) (rm rc : Nat) (l : List Rd) (W : World), W = Wx ∧ i + gk = n ∧ s10 = .int .i64 i ∧ Hid (MI w b1 x rs i rA rm rc l W) ∧ Hid (rm ≤ i))
  case atStart => exact ⟨0, none, 0, 0, [], _, rfl, by omega, rfl, HMI0.out, Nat.le_refl _⟩
  case round =>
    clear HMI0
    obtain ⟨i, rA, rm, rc, l, W, rfl, hig, rfl, HMI, HRM⟩ := hrel
    have hrm := HRM.out
    by_cases hlt : i < n
    · obtain ⟨gk, rfl⟩ : ∃ j, gk = j + 1 := ⟨gk - 1, by omega⟩
      obtain ⟨r, hrr⟩ := mlist_at rs i (by rw [HN.out]; exact hlt)
      obtain ⟨ad, hA, hz0, hz1⟩ := HR.out i r hrr
      have HRR := Lib.hid hrr
      have HRA : Hid (RAt w r) := HA.out r (List.mem_of_getElem? hrr)
      have HZ : Hid (∀ U, Below w.heap.size w U → U.cell? (ad.add (i * 2)) = some (.int .i64 r.tr) ∧ U.cell? ⟨(ad.add (i * 2)).block, (ad.add (i * 2)).off + 1, none⟩ = some (.slice r.sA r.sm r.sc)) := fun U hU => ⟨by rw [hU.cell (p := ad.add (i * 2)) (lt_of_cell hz0)]; exact hz0, by rw [hU.cell (p := ⟨(ad.add (i * 2)).block, (ad.add (i * 2)).off + 1, none⟩) (lt_of_cell hz1)]; exact hz1⟩
      have i2 : (i : Int) < (n : Int) := by omega
      obtain ⟨z0, z1⟩ := HZ.out W HMI.out.bel
      obtain rfl := hA
      clear hrr hz0 hz1
      by_cases hs : 0 < r.sm
      · have d1 : decide ((0 : Int) < (r.sm : Int)) = true := decide_eq_true (by omega)
        have d2 : decide (0 < r.sm) = true := decide_eq_true hs
        have HS : Hid (0 < r.st.length) := by unfold Hid; rw [HRA.out.sl]; exact hs
        have HAP : Hid (∃ v' w', (Builtin.append_ #[29, 29] 29 #[.slice rA rm rc, .slice (some ⟨W.heap.size + 1, 0, none⟩) 1 1]).run Tryz.prog ((W.alloc (.cells #[.int .i64 r.tr, .slice r.sA r.sm r.sc] 49)).alloc (.cells #[.int .i64 r.tr, .slice r.sA r.sm r.sc] 49)) = .ok v' w' ∧ ∃ A' c', v' = .slice A' (rm + 1) c' ∧ (∃ z, w'.cell? ⟨b1 + 1 + 1, 0, none⟩ = some z) ∧ w'.frozen? ⟨b1 + 1 + 1, 0, none⟩ = false ∧ Hid (MI w b1 x rs (i + 1) A' (rm + 1) c' (l ++ [r]) (w'.setCell ⟨b1 + 1 + 1, 0, none⟩ (.slice A' (rm + 1) c')))) := by
          have hbel : Below W.heap.size W ((W.alloc (.cells #[.int .i64 r.tr, .slice r.sA r.sm r.sc] 49)).alloc (.cells #[.int .i64 r.tr, .slice r.sA r.sm r.sc] 49)) := below_more (below_alloc _ _) _
          have hbx : Box ((W.alloc (.cells #[.int .i64 r.tr, .slice r.sA r.sm r.sc] 49)).alloc (.cells #[.int .i64 r.tr, .slice r.sA r.sm r.sc] 49)) (W.heap.size + 1) #[.int .i64 r.tr, .slice r.sA r.sm r.sc] 49 := by
            rw [size_one W (.cells #[.int .i64 r.tr, .slice r.sA r.sm r.sc] 49)]
            exact Box.new (W.alloc (.cells #[.int .i64 r.tr, .slice r.sA r.sm r.sc] 49)) _ _
          have hrow : RowsR ((W.alloc (.cells #[.int .i64 r.tr, .slice r.sA r.sm r.sc] 49)).alloc (.cells #[.int .i64 r.tr, .slice r.sA r.sm r.sc] 49)) (some ⟨W.heap.size + 1, 0, none⟩) [r] := fun k s hk => by
            have hk0 : k = 0 := by have := (List.getElem?_eq_some_iff.1 hk).1; simp at this; exact this
            subst hk0
            obtain rfl : r = s := by simpa using hk
            refine ⟨_, rfl, ?_, ?_⟩
            · rw [add_flat]; exact hbx.cell 0 _ rfl
            · rw [add_flat]; exact hbx.cell 1 _ rfl
          obtain ⟨v', w', h1, A', c', rfl, h2⟩ := ownq_app (HMI.out.q.below hbel) (Nat.le_trans HMI.out.pb.lt hbel.size) (some ⟨W.heap.size + 1, 0, none⟩) 1 1 [r] rfl hrow (by rw [HMI.out.rl]; omega) (rm + 1) (by rw [List.length_append, HMI.out.rl]; rfl)
          have hb2 : Below (b1 + 3) W w' := (hbel.mono HMI.out.pb.lt).trans h2.out.2
          have hpb := HMI.out.pb.old hb2 (by omega)
          exact ⟨_, w', h1, A', c', rfl, ⟨_, hpb.cell 0 _ rfl⟩, hpb.fz 0, HMI.out.put HRR.out HS.out hb2 h2.out.1 HWA.out⟩
        have p0 : (W.alloc (.cells #[.int .i64 r.tr, .slice r.sA r.sm r.sc] 49)).cell? ⟨b1 + 1 + 1, 0, none⟩ = some (.slice rA rm rc) := (HMI.out.pb.below (below_alloc W (.cells #[.int .i64 r.tr, .slice r.sA r.sm r.sc] 49))).cell 0 _ rfl
        have q0 : (W.alloc (.cells #[.int .i64 r.tr, .slice r.sA r.sm r.sc] 49)).cell? ⟨W.heap.size, 0, none⟩ = some (.int .i64 r.tr) := (Box.new W _ _).cell 0 _ rfl
        have q1 : (W.alloc (.cells #[.int .i64 r.tr, .slice r.sA r.sm r.sc] 49)).cell? ⟨W.heap.size, 1, none⟩ = some (.slice r.sA r.sm r.sc) := (Box.new W _ _).cell 1 _ rfl
        clear hs
        go_wp2_with (at_builtin; refine wpList_append_any rfl (.tmp 19) (.tmp 21) 29 29 rfl _ _ rfl rfl _ HAP.out ?_; intro v6 w6 hc6; obtain ⟨A6, c6, rfl, ⟨zz, u1⟩, u2, u3⟩ := hc6)
        clear z0 z1 p0 q0 q1 u1 u2 HAP
        go_roundg gk
        case measure => omega
        case rel => exact ⟨i + 1, A6, rm + 1, c6, l ++ [r], _, rfl, by omega, by first | rfl | go_num, u3.out, Nat.succ_le_succ hrm⟩
      · have d1 : decide ((0 : Int) < (r.sm : Int)) = false := decide_eq_false (by omega)
        have d2 : decide (0 < r.sm) = false := decide_eq_false hs
        have q1 : (W.alloc (.cells #[.int .i64 r.tr, .slice r.sA r.sm r.sc] 49)).cell? ⟨W.heap.size, 1, none⟩ = some (.slice r.sA r.sm r.sc) := (Box.new W _ _).cell 1 _ rfl
        have HMI2 : Hid (MI w b1 x rs (i + 1) rA rm rc l (W.alloc (.cells #[.int .i64 r.tr, .slice r.sA r.sm r.sc] 49))) := MI.below (W := W) ⟨HMI.out.bel, HMI.out.wx, HMI.out.res, HMI.out.pb, HMI.out.q, HMI.out.sub, by rw [HMI.out.eq, Bt.made_take (ros_at HRR.out), if_neg (by show ¬ 0 < r.st.length; rw [HRA.out.sl]; exact hs)], HMI.out.rl, HMI.out.wb⟩ (below_alloc _ _)
        clear hs
        go_wp2
        go_roundg gk
        case measure => omega
        case rel => exact ⟨i + 1, rA, rm, rc, l, _, rfl, by omega, by first | rfl | go_num, HMI2.out, Nat.le_succ_of_le hrm⟩
    · obtain rfl : i = n := by omega
      have HEQ : Hid (ros l = Bt.made (ros rs)) := by
        unfold Hid
        rw [HMI.out.eq, List.take_of_length_le (by rw [ros_len, HN.out]; exact Nat.le_refl _)]
      have HST : Hid ((Pl.stops (ros l)).length ≤ 10000) := by unfold Hid; rw [HEQ.out, Bt.stops_made]; exact HTOT.out
      have HROW : Hid (∀ W', OwnQ W' (b1 + 3) (.slice rA rm rc) l → RowsR W' rA l ∧ ∀ ad, rA = some ad → b1 + 3 ≤ ad.block) := fun W' h => by
        obtain ⟨A', c', e, _, _, h2, h3⟩ := h.row
        injection e with e1 _ _
        rw [e1]
        exact ⟨h2, fun ad e => (h3 ad e).1⟩
      have HP0 : Hid (PAt W ⟨rA, rm, rc, l, none, 0, 0, []⟩) := ⟨HMI.out.rl, by show rm ≤ 1000; omega, (HROW.out W HMI.out.q).1, fun r hr => (HA.out r (HMI.out.sub r hr)).below HMI.out.bel, HST.out, rfl, by show 0 ≤ 1000; omega, IntsAt.nil _ _⟩
      have HRS := Lib.hid (rest_b x ⟨rA, rm, rc, l, none, 0, 0, []⟩ W HMI.out.wx.at_ HP0.out)
      have x0 := HMI.out.wx.c0
      have x1 := HMI.out.wx.c1
      have x2 := HMI.out.wx.c2
      have x3 := HMI.out.wx.c3
      have x4 := HMI.out.wx.c4
      have p0 : W.cell? ⟨b1 + 1 + 1, 0, none⟩ = some (.slice rA rm rc) := HMI.out.pb.cell 0 _ rfl
      have p1 : W.cell? ⟨b1 + 1 + 1, 1, none⟩ = some (.slice none 0 0) := HMI.out.pb.cell 1 _ rfl
      go_wp2_with fail
      clear x0 x1 x2 x3 x4 p0 p1
      with_reducible refine HRS.out.mono ?_
      rintro e W9 ⟨uA, uc, rfl, huc, h9⟩
      have HM9 := Lib.hid (HMI.out.below h9.out.1)
      have HU := Lib.hid h9.out.2.1
      have HUB : Hid (∀ ad, uA = some ad → b1 + 3 ≤ ad.block) := fun ad e => Nat.le_trans HMI.out.pb.lt (h9.out.2.2 ad e).1
      obtain ⟨un, hun⟩ : ∃ n, (Pl.restS x.os (ros l)).length = n := ⟨_, rfl⟩
      have HUN : Hid ((Pl.restS x.os (ros l)).length = un ∧ un ≤ 1000) := ⟨hun, by
        have h1 := Pl.restS_len x.os (ros l)
        have h2 := HWA.out.ml
        have h3 := HWA.out.m2
        omega⟩
      rw [show (Pl.restS x.os (ros (Pd.rs ⟨rA, rm, rc, l, none, 0, 0, []⟩))).length = un from hun]
      have HB10 : Hid (Box (W9.setCell ⟨b1 + 1 + 1, 1, none⟩ (.slice uA un uc)) (b1 + 1 + 1) #[.slice rA rm rc, .slice uA un uc] 32) := HM9.out.pb.set 1 _ _ rfl
      have HR10 : Hid (Box (W9.setCell ⟨b1 + 1 + 1, 1, none⟩ (.slice uA un uc)) (b1 + 1) #[.slice none 0 0, .slice none 0 0] 32) := (Go.Deep.blk_setCell_other _ _ _ _ (by show b1 + 1 ≠ b1 + 1 + 1; omega)).trans HM9.out.res
      have HLE : Hid (w.heap.size ≤ b1) := by rw [HBE.out]; exact Nat.le_refl _
      have HB11 : Hid (Below w.heap.size w (W9.setCell ⟨b1 + 1 + 1, 1, none⟩ (.slice uA un uc))) := HM9.out.bel.setCell (p := ⟨b1 + 1 + 1, 1, none⟩) (by have := HLE.out; show w.heap.size ≤ b1 + 1 + 1; omega) _
      have y1 : W9.cell? ⟨b1 + 1 + 1, 1, none⟩ = some (.slice none 0 0) := HM9.out.pb.cell 1 _ rfl
      have y2 : W9.frozen? ⟨b1 + 1 + 1, 1, none⟩ = false := HM9.out.pb.fz 1
      have HP10 : Hid (PAt (W9.setCell ⟨b1 + 1 + 1, 1, none⟩ (.slice uA un uc)) ⟨rA, rm, rc, l, uA, un, uc, Pl.restS x.os (ros l)⟩) := by
        have hk : ∀ j, j ≠ b1 + 2 → (W9.setCell ⟨b1 + 1 + 1, 1, none⟩ (.slice uA un uc)).heap[j]? = W9.heap[j]? := fun j hj => Go.Deep.blk_setCell_other _ _ _ _ (by show j ≠ b1 + 1 + 1; omega)
        refine ⟨HM9.out.rl, by show rm ≤ 1000; omega, (HROW.out _ (HM9.out.q.put fun j hj _ => hk j (by omega))).1, fun r hr => (HA.out r (HMI.out.sub r hr)).below HB11.out, HST.out, HUN.out.1, HUN.out.2, fun j z hz => ?_⟩
        obtain ⟨ad, e, hc⟩ := HU.out j z hz
        refine ⟨ad, e, ?_⟩
        rw [World.cell?_setCell_other _ _ _ _ (fun e' => by have h1 := congrArg Addr.block e'; rw [blk_add] at h1; have h2 := HUB.out ad e; simp at h1; omega)]
        exact hc
      have HCP := Lib.hid (copy_b _ _ HP10.out)
      have z0 := HB10.out.cell 0 _ rfl
      have z1 := HB10.out.cell 1 _ rfl
      clear hun h9 HRS huc
      go_wp2_with fail
      clear y1 y2 z0 z1
      with_reducible refine HCP.out.mono ?_
      rintro e W12 ⟨q, rfl, hq⟩
      have HR12 := Lib.hid (HR10.out.below hq.out.bel)
      have r0 := HR12.out.cell 0 _ rfl
      have r1 := HR12.out.cell 1 _ rfl
      have q0 := HR12.out.fz 0
      have q1 := HR12.out.fz 1
      have HB12 : Hid (Below w.heap.size w W12) := below_next HB11.out hq.out.bel
      have HSZ : Hid (b1 + 2 < (W9.setCell ⟨b1 + 1 + 1, 1, none⟩ (.slice uA un uc)).heap.size) := HB10.out.lt
      go_wp2
      have hbw := below_set2 HB12.out (b1 + 1) (by have := HLE.out; omega) (.slice q.rA q.rm q.rc) (.slice q.uA q.um q.uc)
      have hk : ∀ j, b1 + 2 ≤ j → ((W12.setCell ⟨b1 + 1, 0, none⟩ (.slice q.rA q.rm q.rc)).setCell ⟨b1 + 1, 1, none⟩ (.slice q.uA q.um q.uc)).heap[j]? = W12.heap[j]? := fun j hj => but_set2 _ (b1 + 1) _ _ j (by omega)
      obtain ⟨h, hh, ho1, ho2, ho3⟩ := hq.out.own
      have hbs : b1 + 2 ≤ (W9.setCell ⟨b1 + 1 + 1, 1, none⟩ (.slice uA un uc)).heap.size := Nat.le_of_lt HSZ.out
      have hws : w.heap.size ≤ (W9.setCell ⟨b1 + 1 + 1, 1, none⟩ (.slice uA un uc)).heap.size := HB11.out.size
      have k1 := ho1.put (W' := (W12.setCell ⟨b1 + 1, 0, none⟩ (.slice q.rA q.rm q.rc)).setCell ⟨b1 + 1, 1, none⟩ (.slice q.uA q.um q.uc)) fun j hj _ => hk j (by omega)
      have k2 : ∀ r ∈ q.rs, OwnI ((W12.setCell ⟨b1 + 1, 0, none⟩ (.slice q.rA q.rm q.rc)).setCell ⟨b1 + 1, 1, none⟩ (.slice q.uA q.um q.uc)) h (.slice r.sA r.sm r.sc) r.st := fun r hr => (ho3 r hr).put fun j hj _ => hk j (by omega)
      have k3 := hq.out.uo.put (W' := (W12.setCell ⟨b1 + 1, 0, none⟩ (.slice q.rA q.rm q.rc)).setCell ⟨b1 + 1, 1, none⟩ (.slice q.uA q.um q.uc)) fun j hj _ => hk j (by omega)
      have hro : ros q.rs = Bt.made (ros rs) := hq.out.ro.trans HEQ.out
      refine bodyPost_ret (results_plan rfl _ (plan_set HR12.out _ _) rfl rfl) rfl ⟨q, rfl, hbw, ⟨hq.out.at_.rl, hq.out.at_.r2, k1.len.2.2.1, fun r hr => ⟨(k2 r hr).len.1, (hq.out.at_.ra r hr).s2, (k2 r hr).len.2.2⟩, hq.out.at_.tot, hq.out.at_.ul, hq.out.at_.u2, k3.len.2.2⟩, hro, ?_, fun r hr => (k2 r hr).len.2.1, k1.mono hws, fun r hr => (k2 r hr).mono (Nat.le_trans hws hh), k3.mono hws⟩
      rw [hq.out.us, hq.out.ro]
end Go.Proofs.YtgjmlnpfkmpfgaaGreat
end

section
/-! Package better: the iterators' makers, and the one that goes through what comes of each move of a plan, kind by kind. -/
namespace Go.Proofs.YtgjmlnpfkmpfgaaGreat
open Go.RowKit Go.Shelf
set_option linter.unusedVariables false
set_option maxRecDepth 100000
attribute [local go_sem] Oper.semAt_some

/-! what lies in cells alone, and stays -/
structure KC (sb : Nat) (W W' : World) : Prop where
  size : W.heap.size ≤ W'.heap.size
  mn : ∀ i, i < W.heap.size → Mn sb W' i → Mn sb W i
  keep : ∀ i cs t fr, ¬ Mn sb W i → W.heap[i]? = some (.cells cs t fr) → W'.heap[i]? = some (.cells cs t fr)
theorem KM.kc {sb : Nat} {W W' : World} (h : KM sb W W') : KC sb W W' := ⟨h.size, h.mn, fun i cs t fr hn ho => h.keep i _ hn ho⟩
theorem KC.trans {sb : Nat} {A B C : World} (h : KC sb A B) (k : KC sb B C) : KC sb A C :=
  ⟨Nat.le_trans h.size k.size, fun i hi hm => h.mn i hi (k.mn i (Nat.lt_of_lt_of_le hi h.size) hm), fun i cs t fr hn ho => k.keep i cs t fr (fun hm => hn (h.mn i (lt_some ho) hm)) (h.keep i cs t fr hn ho)⟩
theorem KC.refl (sb : Nat) (W : World) : KC sb W W := ⟨Nat.le_refl _, fun _ _ h => h, fun _ _ _ _ _ h => h⟩
def StayC (sb : Nat) (W : World) (P : World → Prop) : Prop := ∀ W', KC sb W W' → P W'
theorem StayC.now {sb : Nat} {W : World} {P : World → Prop} (h : StayC sb W P) : P W := h W (KC.refl sb W)
theorem StayC.step {sb : Nat} {W W' : World} {P : World → Prop} (h : StayC sb W P) (hk : KC sb W W') : StayC sb W' P := fun U hU => h U (hk.trans hU)
theorem kc_grown {sb : Nat} {W W' : World} {row : Option Nat} (hs : ∃ cs t fr, W.heap[sb]? = some (.cells cs t fr)) (hg : W.grownBy W' row) (hr : ∀ r, row = some r → ∃ o : Obj, W.heap[r]? = some o ∧ o.isCells = false) : KC sb W W' := by
  have hold : ∀ (i : Nat) (cs : Array Value) (t : TypeId) (fr : Nat × Nat), W.heap[i]? = some (.cells cs t fr) → W'.heap[i]? = some (.cells cs t fr) := fun i cs t fr ho => (hg.block i (lt_some ho) (fun e => by
    obtain ⟨o2, ho2, hc2⟩ := hr i e.symm
    rw [ho] at ho2
    obtain rfl := Option.some.inj ho2
    simp [Obj.isCells] at hc2)).trans ho
  obtain ⟨cs, t, fr, e⟩ := hs
  exact ⟨hg.size, fun i _ hm => (Mn.congr ((hold sb cs t fr e).trans e.symm)).1 hm, fun i cs t fr _ ho => hold i cs t fr ho⟩

/-- a plan whose rows lie from a block on -/
structure PlOwn (B : Nat) (U : World) (q : Pd) : Prop where
  at_ : PAt U q
  rr : OwnQ U B (.slice q.rA q.rm q.rc) q.rs
  st : ∀ r ∈ q.rs, OwnI U B (.slice r.sA r.sm r.sc) r.st
  u : OwnI U B (.slice q.uA q.um q.uc) q.us
theorem PlOwn.put {B : Nat} {W W' : World} {q : Pd} (h : PlOwn B W q) (hb : ∀ k cs t fr, B ≤ k → W.heap[k]? = some (.cells cs t fr) → (∀ ad, (q.rA = some ad ∨ q.uA = some ad ∨ ∃ r ∈ q.rs, r.sA = some ad) → ad.block = k → W'.heap[k]? = some (.cells cs t fr))) : PlOwn B W' q := by
  have h1 : OwnQ W' B (.slice q.rA q.rm q.rc) q.rs := by
    obtain ⟨h1, h2⟩ := h.rr
    refine ⟨h1, ?_⟩
    rcases h2 with h2 | ⟨g, cap, cur, hv, hg, hh, r⟩
    · exact .inl h2
    · refine .inr ⟨g, cap, cur, hv, hg, hb g _ _ _ hg hh ⟨g, 0, none⟩ (.inl ?_) rfl, r⟩
      injection hv with hv _ _
  have h2 : ∀ r ∈ q.rs, OwnI W' B (.slice r.sA r.sm r.sc) r.st := fun r hr => by
    obtain ⟨h1, h2⟩ := h.st r hr
    refine ⟨h1, ?_⟩
    rcases h2 with h2 | ⟨g, cap, cur, hv, hg, hh, rr⟩
    · exact .inl h2
    · refine .inr ⟨g, cap, cur, hv, hg, hb g _ _ _ hg hh ⟨g, 0, none⟩ (.inr (.inr ⟨r, hr, ?_⟩)) rfl, rr⟩
      injection hv with hv _ _
  have h3 : OwnI W' B (.slice q.uA q.um q.uc) q.us := by
    obtain ⟨h1, h2⟩ := h.u
    refine ⟨h1, ?_⟩
    rcases h2 with h2 | ⟨g, cap, cur, hv, hg, hh, r⟩
    · exact .inl h2
    · refine .inr ⟨g, cap, cur, hv, hg, hb g _ _ _ hg hh ⟨g, 0, none⟩ (.inr (.inl ?_)) rfl, r⟩
      injection hv with hv _ _
  exact ⟨⟨h.at_.rl, h.at_.r2, h1.len.2.2.1, fun r hr => ⟨(h.at_.ra r hr).sl, (h.at_.ra r hr).s2, (h2 r hr).len.2.2⟩, h.at_.tot, h.at_.ul, h.at_.u2, h3.len.2.2⟩, h1, h2, h3⟩
/-- it lies in blocks that are none of the one's that ranges -/
theorem PlOwn.stay {sb B : Nat} {w W : World} {q : Pd} (hk : MnOk sb w) (hb : Below w.heap.size w W) (hB : B ≤ w.heap.size) (h : PlOwn w.heap.size W q) : StayC sb W fun U => PlOwn B U q := fun U hU => by
  have h2 := h.put (W' := U) fun k cs t fr hk2 hh ad _ e => hU.keep k cs t fr (fresh_not hk hb hk2) hh
  exact ⟨h2.at_, h2.rr.mono hB, fun r hr => (h2.st r hr).mono hB, h2.u.mono hB⟩

/-- what comes of a move, handed over: a plan of its own, and what it says of those that are left -/
def PV (sb B : Nat) (os : List Ld.O) (x : List Pl.Ro) (v : Value) (W : World) : Prop := ∃ q : Pd, v = .agg #[.slice q.rA q.rm q.rc, .slice q.uA q.um q.uc] ∧ (∃ cs t fr, W.heap[sb]? = some (.cells cs t fr)) ∧ StayC sb W (fun U => PlOwn B U q) ∧ ros q.rs = x ∧ q.us = Pl.restS os x ∧ ∀ r ∈ q.rs, r.sm ≤ r.sc
theorem pv_own (sb B : Nat) (os : List Ld.O) (x : List Pl.Ro) (v : Value) : Own (fun (_ : Unit) W => PV sb B os x v W) := by
  rintro _ W W' row ⟨q, e, hs, hst, h⟩ hg hr
  have hkc := kc_grown hs hg hr
  obtain ⟨cs, t, fr, hh⟩ := hs
  refine ⟨q, e, ⟨cs, t, fr, ?_⟩, hst.step hkc, h⟩
  exact (hg.block sb (lt_some hh) (fun e => by
    obtain ⟨o2, ho2, hc2⟩ := hr sb e.symm
    rw [hh] at ho2
    obtain rfl := Option.some.inj ho2
    simp [Obj.isCells] at hc2)).trans hh

theorem stops_le (l : List Rd) (S : Nat) (hs : ∀ r ∈ l, r.st.length ≤ S) : (Pl.stops (ros l)).length ≤ l.length * S := by
  have : ∀ l : List Rd, (∀ r ∈ l, r.st.length ≤ S) → (Pl.stops (ros l)).length ≤ l.length * S := by
    intro l
    induction l with
    | nil => intro _; exact Nat.zero_le _
    | cons r l ih =>
      intro h
      have h1 : (Pl.stops (ros (r :: l))).length = r.st.length + (Pl.stops (ros l)).length := by unfold Pl.stops ros; simp [Rd.ro]
      have h2 := h r (by simp)
      have h3 := ih fun s hs => h s (by simp [hs])
      rw [h1, List.length_cons, Nat.succ_mul]
      omega
  exact this l hs

section
set_option maxHeartbeats 1000000
theorem inserts_b (p : Pd) (w : World) : Calls Tryz.prog 44 #[.agg #[.slice p.rA p.rm p.rc, .slice p.uA p.um p.uc]] w fun e w' => e = .returned (.func (.func 67) #[] #[.pointer (some ⟨w.heap.size, 0, none⟩)]) ∧ w' = w.alloc (.cells #[.slice p.rA p.rm p.rc, .slice p.uA p.um p.uc] 32) := by
  go_enter Tryz.func44, Tryz.ntmps44
  go_wp2
  go_ret
  exact ⟨rfl, rfl⟩
theorem moves_b (p : Pd) (w : World) : Calls Tryz.prog 46 #[.agg #[.slice p.rA p.rm p.rc, .slice p.uA p.um p.uc]] w fun e w' => e = .returned (.func (.func 71) #[] #[.pointer (some ⟨w.heap.size, 0, none⟩)]) ∧ w' = w.alloc (.cells #[.slice p.rA p.rm p.rc, .slice p.uA p.um p.uc] 32) := by
  go_enter Tryz.func46, Tryz.ntmps46
  go_wp2
  go_ret
  exact ⟨rfl, rfl⟩
theorem turns_b (p : Pd) (w : World) : Calls Tryz.prog 47 #[.agg #[.slice p.rA p.rm p.rc, .slice p.uA p.um p.uc]] w fun e w' => e = .returned (.func (.func 74) #[] #[.pointer (some ⟨w.heap.size, 0, none⟩)]) ∧ w' = w.alloc (.cells #[.slice p.rA p.rm p.rc, .slice p.uA p.um p.uc] 32) := by
  go_enter Tryz.func47, Tryz.ntmps47
  go_wp2
  go_ret
  exact ⟨rfl, rfl⟩
theorem swaps_b (p : Pd) (w : World) : Calls Tryz.prog 48 #[.agg #[.slice p.rA p.rm p.rc, .slice p.uA p.um p.uc]] w fun e w' => e = .returned (.func (.func 76) #[] #[.pointer (some ⟨w.heap.size, 0, none⟩)]) ∧ w' = w.alloc (.cells #[.slice p.rA p.rm p.rc, .slice p.uA p.um p.uc] 32) := by
  go_enter Tryz.func48, Tryz.ntmps48
  go_wp2
  go_ret
  exact ⟨rfl, rfl⟩
theorem opens_b (x : Wd) (p : Pd) (w : World) : Calls Tryz.prog 45 #[.agg #[.int .i64 x.N, .slice x.dA x.dm x.dc, .slice x.tA x.tm x.tc, .slice x.A x.m x.c, .slice x.B x.k x.d], .agg #[.slice p.rA p.rm p.rc, .slice p.uA p.um p.uc]] w fun e w' =>
    e = .returned (.func (.func 69) #[] #[.pointer (some ⟨w.heap.size + 1, 0, none⟩), .pointer (some ⟨w.heap.size, 0, none⟩)]) ∧ w' = (w.alloc (.cells #[.int .i64 x.N, .slice x.dA x.dm x.dc, .slice x.tA x.tm x.tc, .slice x.A x.m x.c, .slice x.B x.k x.d] 28)).alloc (.cells #[.slice p.rA p.rm p.rc, .slice p.uA p.um p.uc] 32) := by
  go_enter Tryz.func45, Tryz.ntmps45
  go_wp2
  go_ret
  exact ⟨rfl, rfl⟩
theorem tries_b (x : Wd) (p : Pd) (w : World) : Calls Tryz.prog 23 #[.agg #[.int .i64 x.N, .slice x.dA x.dm x.dc, .slice x.tA x.tm x.tc, .slice x.A x.m x.c, .slice x.B x.k x.d], .agg #[.slice p.rA p.rm p.rc, .slice p.uA p.um p.uc]] w fun e w' =>
    e = .returned (.func (.func 43) #[] #[.pointer (some ⟨w.heap.size + 1, 0, none⟩), .pointer (some ⟨w.heap.size, 0, none⟩)]) ∧ w' = (w.alloc (.cells #[.int .i64 x.N, .slice x.dA x.dm x.dc, .slice x.tA x.tm x.tc, .slice x.A x.m x.c, .slice x.B x.k x.d] 28)).alloc (.cells #[.slice p.rA p.rm p.rc, .slice p.uA p.um p.uc] 32) := by
  go_enter Tryz.func23, Tryz.ntmps23
  go_wp2
  go_ret
  exact ⟨rfl, rfl⟩
end
end Go.Proofs.YtgjmlnpfkmpfgaaGreat
end
