/- The document's answer for better: a plan of routes. -/
import Derived.Test.YtgjmlnpfkmpfgaaGreatBetDb
import Derived.Test.YtgjmlnpfkmpfgaaGreatPlanE
namespace Bt
open Pl
theorem stops_made (rs : List Ro) : stops (made rs) = stops rs := by
  induction rs with
  | nil => rfl
  | cons r l ih =>
    have h1 : made (r :: l) = if 0 < r.st.length then r :: made l else made l := by
      unfold made
      rw [List.filter_cons]
      by_cases h : 0 < r.st.length
      · rw [if_pos (decide_eq_true h), if_pos h]
      · rw [if_neg (by simpa using h), if_neg h]
    have h2 : stops (r :: l) = r.st ++ stops l := by unfold stops; simp
    rw [h1, h2]
    by_cases h : 0 < r.st.length
    · rw [if_pos h]
      have h3 : stops (r :: made l) = r.st ++ stops (made l) := by unfold stops; simp
      rw [h3, ih]
    · rw [if_neg h, ih, List.eq_nil_of_length_eq_zero (Nat.eq_zero_of_not_pos h)]
      rfl
theorem made_le (rs : List Ro) : (made rs).length ≤ rs.length := List.length_filter_le _ _
theorem made_take {rs : List Ro} {k : Nat} {r : Ro} (h : rs[k]? = some r) : made (rs.take (k + 1)) = if 0 < r.st.length then made (rs.take k) ++ [r] else made (rs.take k) := by
  rw [Ar.take_snoc _ _ _ h, made_snoc]
end Bt
namespace Go.Proofs.YtgjmlnpfkmpfgaaGreat
open Go.RowKit
set_option linter.unusedVariables false
set_option maxRecDepth 100000

/-- what is known while a plan of routes is made -/
structure MI (w : World) (b1 : Nat) (x : Wd) (rs : List Rd) (i : Nat) (rA : Option Addr) (rm rc : Nat) (l : List Rd) (W : World) : Prop where
  bel : Below w.heap.size w W
  wx : WX W b1 x
  res : Box W (b1 + 1) #[.slice none 0 0, .slice none 0 0] 32
  pb : Box W (b1 + 2) #[.slice rA rm rc, .slice none 0 0] 32
  q : OwnQ W (b1 + 3) (.slice rA rm rc) l
  sub : ∀ r ∈ l, r ∈ rs
  eq : ros l = Bt.made ((ros rs).take i)
  rl : l.length = rm
  wb : w.heap.size = b1
theorem MI.below {w W W' : World} {b1 i rm rc : Nat} {x : Wd} {rs l : List Rd} {rA : Option Addr} (h : MI w b1 x rs i rA rm rc l W) (hb : Below W.heap.size W W') : MI w b1 x rs i rA rm rc l W' :=
  ⟨below_next h.bel hb, h.wx.below hb, h.res.below hb, h.pb.below hb, h.q.below hb, h.sub, h.eq, h.rl, h.wb⟩
/-- a route with stops is stored -/
theorem MI.put {w W W2 : World} {b1 i rm rc rc' : Nat} {x : Wd} {rs l : List Rd} {rA rA' : Option Addr} (h : MI w b1 x rs i rA rm rc l W) {r : Rd} (hr : rs[i]? = some r) (hs : 0 < r.st.length) (hb : Below (b1 + 3) W W2) (ho : OwnQ W2 (b1 + 3) (.slice rA' (rm + 1) rc') (l ++ [r])) (hx : WAt w x) :
    MI w b1 x rs (i + 1) rA' (rm + 1) rc' (l ++ [r]) (W2.setCell ⟨b1 + 2, 0, none⟩ (.slice rA' (rm + 1) rc')) := by
  have hwb := h.wb
  have hbel : Below w.heap.size w (W2.setCell ⟨b1 + 2, 0, none⟩ (.slice rA' (rm + 1) rc')) := (h.bel.trans (hb.mono (by omega))).setCell (p := ⟨b1 + 2, 0, none⟩) (by show w.heap.size ≤ b1 + 2; omega) _
  have hk : ∀ k, k ≠ b1 + 2 → (W2.setCell ⟨b1 + 2, 0, none⟩ (.slice rA' (rm + 1) rc')).heap[k]? = W2.heap[k]? := fun k hk => Go.Deep.blk_setCell_other _ _ _ _ hk
  refine ⟨hbel, ⟨?_, ?_⟩, (hk _ (by omega)).trans (h.res.old hb (by omega)), (h.pb.old hb (by omega)).set 0 _ _ rfl, ho.put fun k h1 _ => hk k (by omega), fun s hs' => ?_, ?_, by rw [List.length_append, h.rl]; rfl, hwb⟩
  · exact (hk _ (by omega)).trans (h.wx.box.old hb (by omega))
  · exact hx.below hbel
  · rcases List.mem_append.1 hs' with h1 | h1
    · exact h.sub s h1
    · rw [List.mem_singleton.1 h1]; exact List.mem_of_getElem? hr
  · rw [ros_snoc, h.eq, Bt.made_take (ros_at hr), if_pos (show 0 < r.ro.st.length from hs)]

/-- what a call that makes a plan of routes leaves -/
def MadePost (w : World) (x : Wd) (rs : List Rd) (lo : Nat) (e : Ending) (w' : World) : Prop := ∃ p : Pd, e = .returned (.agg #[.slice p.rA p.rm p.rc, .slice p.uA p.um p.uc]) ∧ Hid (Below w.heap.size w w' ∧ ros p.rs = Bt.made (ros rs) ∧ p.us = Pl.restS x.os (ros p.rs) ∧ (St w' lo none fun W' => PAt W' p) ∧ ∀ r ∈ p.rs, r ∈ rs)
set_option maxHeartbeats 8000000 in
theorem dmade_b (x : Wd) (A : Option Addr) (n c : Nat) (rs : List Rd) (w : World) (lo : Nat) (hlo : lo ≤ w.heap.size) (hx : WAt w x) (hn : rs.length = n) (hn2 : n ≤ 1000) (hr : RowsR w A rs) (ha : ∀ r ∈ rs, St w lo none fun W' => RAt W' r) (htot : (Pl.stops (ros rs)).length ≤ 10000) :
    Calls Tryz.prog 57 #[.agg #[.int .i64 x.N, .slice x.dA x.dm x.dc, .slice x.tA x.tm x.tc, .slice x.A x.m x.c, .slice x.B x.k x.d], .slice A n c] w (MadePost w x rs lo) := by
  have HWA := Lib.hid hx
  have HN := Lib.hid hn
  have HR := Lib.hid hr
  have HA := Lib.hid ha
  have HLO := Lib.hid hlo
  have HTOT := Lib.hid htot
  have HMI0 : Hid (MI w w.heap.size x rs 0 none 0 0 [] (((w.alloc (.cells #[.int .i64 x.N, .slice x.dA x.dm x.dc, .slice x.tA x.tm x.tc, .slice x.A x.m x.c, .slice x.B x.k x.d] 28)).alloc (.cells #[.slice none 0 0, .slice none 0 0] 32)).alloc (.cells #[.slice none 0 0, .slice none 0 0] 32))) := by
    have e1 : (w.alloc (.cells #[.int .i64 x.N, .slice x.dA x.dm x.dc, .slice x.tA x.tm x.tc, .slice x.A x.m x.c, .slice x.B x.k x.d] 28)).heap.size = w.heap.size + 1 := by simp
    have e2 : ((w.alloc (.cells #[.int .i64 x.N, .slice x.dA x.dm x.dc, .slice x.tA x.tm x.tc, .slice x.A x.m x.c, .slice x.B x.k x.d] 28)).alloc (.cells #[.slice none 0 0, .slice none 0 0] 32)).heap.size = w.heap.size + 2 := by simp
    refine ⟨below_more (below_more (below_alloc _ _) _) _, ((WX.new hx).below (below_alloc _ _)).below (below_alloc _ _), ?_, ?_, ownQ_nil _ _, (fun r h => by cases h), rfl, rfl, rfl⟩
    · rw [← e1]; exact (Box.new _ _ _).below (below_alloc _ _)
    · rw [← e2]; exact Box.new _ _ _
  clear hx hn hr ha hlo htot
  go_enter Tryz.func57, Tryz.ntmps57
  go_wp2_with fail
  generalize (((w.alloc (.cells #[.int .i64 x.N, .slice x.dA x.dm x.dc, .slice x.tA x.tm x.tc, .slice x.A x.m x.c, .slice x.B x.k x.d] 28)).alloc (.cells #[.slice none 0 0, .slice none 0 0] 32)).alloc (.cells #[.slice none 0 0, .slice none 0 0] 32)) = V at *
  generalize hb1 : w.heap.size = b1 at HMI0 ⊢
  have HBE := Lib.hid hb1
  clear hb1
  go_loopg [6] n (fun gk s6 Wx => ∃ (i : Nat) (rA : Option Addr) (rm rc : Nat) (l : List Rd) (W : World), W = Wx ∧ i + gk = n ∧ s6 = .int .i64 i ∧ Hid (MI w b1 x rs i rA rm rc l W) ∧ Hid (rm ≤ i))
  case atStart => exact ⟨0, none, 0, 0, [], _, rfl, by omega, rfl, HMI0.out, Nat.le_refl _⟩
  case round =>
    clear HMI0
    obtain ⟨i, rA, rm, rc, l, W, rfl, hig, rfl, HMI, HRM⟩ := hrel
    have hrm := HRM.out
    by_cases hlt : i < n
    · obtain ⟨gk, rfl⟩ : ∃ j, gk = j + 1 := ⟨gk - 1, by omega⟩
      obtain ⟨r, hrr⟩ := mlist_at rs i (by rw [HN.out]; exact hlt)
      obtain ⟨ad, hA, hz0, hz1⟩ := HR.out i r hrr
      have HRR := Lib.hid hrr
      have HRA : Hid (RAt w r) := (HA.out r (List.mem_of_getElem? hrr)).now
      have HZ : Hid (∀ U, Below w.heap.size w U → U.cell? (ad.add (i * 2)) = some (.int .i64 r.tr) ∧ U.cell? ⟨(ad.add (i * 2)).block, (ad.add (i * 2)).off + 1, none⟩ = some (.slice r.sA r.sm r.sc)) := fun U hU => ⟨by rw [hU.cell (p := ad.add (i * 2)) (lt_of_cell hz0)]; exact hz0, by rw [hU.cell (p := ⟨(ad.add (i * 2)).block, (ad.add (i * 2)).off + 1, none⟩) (lt_of_cell hz1)]; exact hz1⟩
      have i2 : (i : Int) < (n : Int) := by omega
      obtain ⟨z0, z1⟩ := HZ.out W HMI.out.bel
      obtain rfl := hA
      clear hrr hz0 hz1
      by_cases hs : 0 < r.sm
      · have d1 : decide ((0 : Int) < (r.sm : Int)) = true := decide_eq_true (by omega)
        have d2 : decide (0 < r.sm) = true := decide_eq_true hs
        have HS : Hid (0 < r.st.length) := by unfold Hid; rw [HRA.out.sl]; exact hs
        have HAP : Hid (∃ v' w', (Builtin.append_ #[29, 29] 29 #[.slice rA rm rc, .slice (some ⟨W.heap.size, 0, none⟩) 1 1]).run Tryz.prog ((W.alloc (.cells #[.int .i64 r.tr, .slice r.sA r.sm r.sc] 49)).drew) = .ok v' w' ∧ ∃ A' c', v' = .slice A' (rm + 1) c' ∧ (∃ z, w'.cell? ⟨b1 + 1 + 1, 0, none⟩ = some z) ∧ w'.frozen? ⟨b1 + 1 + 1, 0, none⟩ = false ∧ Hid (MI w b1 x rs (i + 1) A' (rm + 1) c' (l ++ [r]) (w'.setCell ⟨b1 + 1 + 1, 0, none⟩ (.slice A' (rm + 1) c')))) := by
          have hbel : Below W.heap.size W ((W.alloc (.cells #[.int .i64 r.tr, .slice r.sA r.sm r.sc] 49)).drew) := (below_alloc _ _).drew
          have hbx : Box ((W.alloc (.cells #[.int .i64 r.tr, .slice r.sA r.sm r.sc] 49)).drew) W.heap.size #[.int .i64 r.tr, .slice r.sA r.sm r.sc] 49 := Box.new W _ _
          have hrow : RowsR ((W.alloc (.cells #[.int .i64 r.tr, .slice r.sA r.sm r.sc] 49)).drew) (some ⟨W.heap.size, 0, none⟩) [r] := fun k s hk => by
            have hk0 : k = 0 := by have := (List.getElem?_eq_some_iff.1 hk).1; simp at this; exact this
            subst hk0
            obtain rfl : r = s := by simpa using hk
            refine ⟨_, rfl, ?_, ?_⟩
            · rw [add_flat]; exact hbx.cell 0 _ rfl
            · rw [add_flat]; exact hbx.cell 1 _ rfl
          obtain ⟨v', w', h1, A', c', rfl, h2⟩ := ownq_app (HMI.out.q.below hbel) (Nat.le_trans HMI.out.pb.lt hbel.size) (some ⟨W.heap.size, 0, none⟩) 1 1 [r] rfl hrow (by rw [HMI.out.rl]; omega) (rm + 1) (by rw [List.length_append, HMI.out.rl]; rfl)
          have hb2 : Below (b1 + 3) W w' := (hbel.mono HMI.out.pb.lt).trans h2.out.2
          have hpb := HMI.out.pb.old hb2 (by omega)
          exact ⟨_, w', h1, A', c', rfl, ⟨_, hpb.cell 0 _ rfl⟩, hpb.fz 0, HMI.out.put HRR.out HS.out hb2 h2.out.1 HWA.out⟩
        have p0 : W.cell? ⟨b1 + 1 + 1, 0, none⟩ = some (.slice rA rm rc) := HMI.out.pb.cell 0 _ rfl
        have p0a : (W.alloc (.cells #[.int .i64 r.tr, .slice r.sA r.sm r.sc] 49)).cell? ⟨b1 + 1 + 1, 0, none⟩ = some (.slice rA rm rc) := (HMI.out.pb.below (below_alloc W (.cells #[.int .i64 r.tr, .slice r.sA r.sm r.sc] 49))).cell 0 _ rfl
        obtain ⟨y0, y1⟩ := HZ.out (W.alloc (.cells #[.int .i64 r.tr, .slice r.sA r.sm r.sc] 49)) (below_next HMI.out.bel (below_alloc W (.cells #[.int .i64 r.tr, .slice r.sA r.sm r.sc] 49)))
        clear hs
        go_wp2
        go_region_law (first
          | (refine step_append_w ((W.alloc (.cells #[.int .i64 r.tr, .slice r.sA r.sm r.sc] 49)).drew) (by with_reducible rfl) (by rfl) (.tmp 22) (.tmp 27) 29 29 29 (by rfl) (by rfl) (.slice rA rm rc) (.slice (some ⟨W.heap.size, 0, none⟩) 1 1) (by rfl) (by rfl) _ HAP.out ?_
             rintro v2 w6 ⟨A6, c6, rfl, ⟨zz, u1⟩, u2, u3⟩))
        all_goals
          clear z0 z1 y0 y1 p0 p0a u1 u2 HAP
          go_wp2
          go_roundg gk
          case measure => omega
          case rel => exact ⟨i + 1, A6, rm + 1, c6, l ++ [r], _, rfl, by omega, by first | rfl | go_num, u3.out, Nat.succ_le_succ hrm⟩
      · have d1 : decide ((0 : Int) < (r.sm : Int)) = false := decide_eq_false (by omega)
        have d2 : decide (0 < r.sm) = false := decide_eq_false hs
        have HMI2 : Hid (MI w b1 x rs (i + 1) rA rm rc l W) := ⟨HMI.out.bel, HMI.out.wx, HMI.out.res, HMI.out.pb, HMI.out.q, HMI.out.sub, by rw [HMI.out.eq, Bt.made_take (ros_at HRR.out), if_neg (by show ¬ 0 < r.st.length; rw [HRA.out.sl]; exact hs)], HMI.out.rl, HMI.out.wb⟩
        clear hs
        go_wp2
        go_roundg gk
        case measure => omega
        case rel => exact ⟨i + 1, rA, rm, rc, l, _, rfl, by omega, by first | rfl | go_num, HMI2.out, Nat.le_succ_of_le hrm⟩
    · obtain rfl : i = n := by omega
      have HEQ : Hid (ros l = Bt.made (ros rs)) := by
        unfold Hid
        rw [HMI.out.eq, List.take_of_length_le (by rw [ros_len, HN.out]; exact Nat.le_refl _)]
      have HST : Hid ((Pl.stops (ros l)).length ≤ 10000) := by unfold Hid; rw [HEQ.out, Bt.stops_made]; exact HTOT.out
      have HROW : Hid (∀ W', OwnQ W' (b1 + 3) (.slice rA rm rc) l → RowsR W' rA l ∧ ∀ ad, rA = some ad → b1 + 3 ≤ ad.block) := fun W' h => by
        obtain ⟨A', c', e, _, _, h2, h3⟩ := h.row
        injection e with e1 _ _
        rw [e1]
        exact ⟨h2, fun ad e => (h3 ad e).1⟩
      have HP0 : Hid (PAt W ⟨rA, rm, rc, l, none, 0, 0, []⟩) := ⟨HMI.out.rl, by show rm ≤ 1000; omega, (HROW.out W HMI.out.q).1, fun r hr => ((HA.out r (HMI.out.sub r hr)).below HMI.out.bel).now, HST.out, rfl, by show 0 ≤ 1000; omega, IntsAt.nil _ _⟩
      have HRS := Lib.hid (drest_b x ⟨rA, rm, rc, l, none, 0, 0, []⟩ W HMI.out.wx.at_ HP0.out)
      have x0 := HMI.out.wx.c0
      have x1 := HMI.out.wx.c1
      have x2 := HMI.out.wx.c2
      have x3 := HMI.out.wx.c3
      have x4 := HMI.out.wx.c4
      have p0 : W.cell? ⟨b1 + 1 + 1, 0, none⟩ = some (.slice rA rm rc) := HMI.out.pb.cell 0 _ rfl
      have p1 : W.cell? ⟨b1 + 1 + 1, 1, none⟩ = some (.slice none 0 0) := HMI.out.pb.cell 1 _ rfl
      go_wp2_with fail
      clear x0 x1 x2 x3 x4 p0 p1
      with_reducible refine HRS.out.mono ?_
      rintro e W9 ⟨uA, uc, rfl, huc, h9⟩
      have HM9 := Lib.hid (HMI.out.below h9.out.1)
      have HU := Lib.hid h9.out.2.1
      have HUB : Hid (∀ ad, uA = some ad → b1 + 3 ≤ ad.block) := fun ad e => Nat.le_trans HMI.out.pb.lt (h9.out.2.2 ad e).1
      obtain ⟨un, hun⟩ : ∃ n, (Pl.restS x.os (ros l)).length = n := ⟨_, rfl⟩
      have HUN : Hid ((Pl.restS x.os (ros l)).length = un ∧ un ≤ 1000) := ⟨hun, by
        have h1 := Pl.restS_len x.os (ros l)
        have h2 := HWA.out.ml
        have h3 := HWA.out.m2
        omega⟩
      rw [show (Pl.restS x.os (ros (Pd.rs ⟨rA, rm, rc, l, none, 0, 0, []⟩))).length = un from hun]
      have HB10 : Hid (Box (W9.setCell ⟨b1 + 1 + 1, 1, none⟩ (.slice uA un uc)) (b1 + 1 + 1) #[.slice rA rm rc, .slice uA un uc] 32) := HM9.out.pb.set 1 _ _ rfl
      have HR10 : Hid (Box (W9.setCell ⟨b1 + 1 + 1, 1, none⟩ (.slice uA un uc)) (b1 + 1) #[.slice none 0 0, .slice none 0 0] 32) := (Go.Deep.blk_setCell_other _ _ _ _ (by show b1 + 1 ≠ b1 + 1 + 1; omega)).trans HM9.out.res
      have HLE : Hid (w.heap.size ≤ b1) := by rw [HBE.out]; exact Nat.le_refl _
      have HB11 : Hid (Below w.heap.size w (W9.setCell ⟨b1 + 1 + 1, 1, none⟩ (.slice uA un uc))) := HM9.out.bel.setCell (p := ⟨b1 + 1 + 1, 1, none⟩) (by have := HLE.out; show w.heap.size ≤ b1 + 1 + 1; omega) _
      have y1 : W9.cell? ⟨b1 + 1 + 1, 1, none⟩ = some (.slice none 0 0) := HM9.out.pb.cell 1 _ rfl
      have y2 : W9.frozen? ⟨b1 + 1 + 1, 1, none⟩ = false := HM9.out.pb.fz 1
      have z0 := HB10.out.cell 0 _ rfl
      have z1 := HB10.out.cell 1 _ rfl
      have r0 := HR10.out.cell 0 _ rfl
      have r1 := HR10.out.cell 1 _ rfl
      have q0 := HR10.out.fz 0
      have q1 := HR10.out.fz 1
      clear hun h9 HRS huc
      go_wp2
      have hbw := below_set2 HB11.out (b1 + 1) (by have := HLE.out; omega) (.slice rA rm rc) (.slice uA un uc)
      refine bodyPost_ret (results_plan rfl _ (plan_set HR10.out _ _) rfl rfl) rfl ⟨⟨rA, rm, rc, l, uA, un, uc, Pl.restS x.os (ros l)⟩, rfl, hbw, HEQ.out, rfl, ?_, HMI.out.sub⟩
      have hk : ∀ j, b1 + 3 ≤ j → (((W9.setCell ⟨b1 + 1 + 1, 1, none⟩ (.slice uA un uc)).setCell ⟨b1 + 1, 0, none⟩ (.slice rA rm rc)).setCell ⟨b1 + 1, 1, none⟩ (.slice uA un uc)).heap[j]? = W9.heap[j]? := fun j hj =>
        (but_set2 _ (b1 + 1) _ _ j (by omega)).trans (Go.Deep.blk_setCell_other _ _ _ _ (by show j ≠ b1 + 1 + 1; omega))
      have hsz : W9.heap.size ≤ (((W9.setCell ⟨b1 + 1 + 1, 1, none⟩ (.slice uA un uc)).setCell ⟨b1 + 1, 0, none⟩ (.slice rA rm rc)).setCell ⟨b1 + 1, 1, none⟩ (.slice uA un uc)).heap.size := by
        rw [Go.Deep.nblk_setCell, Go.Deep.nblk_setCell, Go.Deep.nblk_setCell]; exact Nat.le_refl _
      have hl3 : lo ≤ b1 + 3 := by have h1 := HLO.out; have h2 := HBE.out; omega
      have s1 := ((St.rows (g := none) (HROW.out W9 HM9.out.q).1 fun ad e => ⟨(HROW.out W9 HM9.out.q).2 ad e, by simp⟩).step (fun j h1 _ _ => hk j h1) (fun j h1 _ h2 => ⟨h1, h2⟩) hsz).mono hl3
      have s2 := ((St.ints (g := none) HU.out fun ad e => ⟨HUB.out ad e, by simp⟩).step (fun j h1 _ _ => hk j h1) (fun j h1 _ h2 => ⟨h1, h2⟩) hsz).mono hl3
      exact fun W2 ha => ⟨HM9.out.rl, by show rm ≤ 1000; omega, s1 W2 ha, fun r hr => ((HA.out r (HMI.out.sub r hr)).below hbw) W2 ha, HST.out, HUN.out.1, HUN.out.2, s2 W2 ha⟩
end Go.Proofs.YtgjmlnpfkmpfgaaGreat
