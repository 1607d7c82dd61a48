/- Contracts of package route: drive. -/
import Derived.Test.YtbacakblboodeaaRouteB
import Derived.Laws.ResultCell
import Derived.Laws.Rows
namespace Go.Proofs.Ytbacakblboodeaa
open Go.RowKit
set_option linter.unusedVariables false
set_option maxRecDepth 100000

theorem legS_ok {N : Int} {D T : List Int} {f t : Int} (hok : Ar.okB N D T = true) (hf : Ar.hasB N f = true) (ht : Ar.hasB N t = true) : Ar.legS N D T f t = (Ar.at2 N D f t, Ar.at2 N T f t, 0) := by
  unfold Ar.legS
  rw [if_pos (Ar.told_ok hok (by rw [Ar.ins_cons, hf, Ar.ins_cons, ht]; rfl))]

/-- what a call that tells a trip leaves -/
def TripPost (w : World) (r : Rt.R) (e : Ending) (w' : World) : Prop :=
  ∃ A c, e = .returned (.tuple #[.agg #[.slice A r.vs.length c, .int .i64 r.back, .int .i64 r.dist, .int .i64 r.cost], .int .i64 r.e]) ∧ Hid (Below w.heap.size w w' ∧ VisAt w' A r.vs ∧ r.vs.length ≤ c ∧ ∀ ad, A = some ad → w.heap.size ≤ ad.block)
theorem TripPost.err {w w' : World} {r : Rt.R} {e : Int} (h : Rt.err e = r) (hb : Below w.heap.size w w') : TripPost w r (.returned (.tuple #[.agg #[.slice none 0 0, .int .i64 0, .int .i64 0, .int .i64 0], .int .i64 e])) w' := by
  subst h
  exact ⟨none, 0, rfl, hb, IntsAt.nil _ _, Nat.le_refl _, fun ad e => by cases e⟩

/-- the boxes of a drive: the area, the truck, what is answered -/
structure DB (V : World) (b1 b2 b3 : Nat) (N : Int) (dA : Option Addr) (dm dc : Nat) (D : List Int) (tA : Option Addr) (tm tc : Nat) (T : List Int) (t0 t1 t2 t3 t4 t5 t6 : Int) : Prop where
  a : Boxed V b1 N dA dm dc D tA tm tc T
  t : Box V b2 #[.int .i64 t0, .int .i64 t1, .int .i64 t2, .int .i64 t3, .int .i64 t4, .int .i64 t5, .int .i64 t6] 59
  r : Box V b3 #[.slice none 0 0, .int .i64 0, .int .i64 0, .int .i64 0] 94
theorem DB.below {V V' : World} {b1 b2 b3 : Nat} {N : Int} {dA : Option Addr} {dm dc : Nat} {D : List Int} {tA : Option Addr} {tm tc : Nat} {T : List Int} {t0 t1 t2 t3 t4 t5 t6 : Int} (h : DB V b1 b2 b3 N dA dm dc D tA tm tc T t0 t1 t2 t3 t4 t5 t6) (hb : Below V.heap.size V V') : DB V' b1 b2 b3 N dA dm dc D tA tm tc T t0 t1 t2 t3 t4 t5 t6 := ⟨h.a.below hb, h.t.below hb, h.r.below hb⟩
theorem DB.new {w : World} {N : Int} {dA : Option Addr} {dm dc : Nat} {D : List Int} {tA : Option Addr} {tm tc : Nat} {T : List Int} {t0 t1 t2 t3 t4 t5 t6 : Int} (h : AreaAt w dA dm D tA tm T) :
    DB (((w.alloc (.cells #[.int .i64 N, .slice dA dm dc, .slice tA tm tc] 24)).alloc (.cells #[.int .i64 t0, .int .i64 t1, .int .i64 t2, .int .i64 t3, .int .i64 t4, .int .i64 t5, .int .i64 t6] 59)).alloc (.cells #[.slice none 0 0, .int .i64 0, .int .i64 0, .int .i64 0] 94)) w.heap.size (w.heap.size + 1) (w.heap.size + 1 + 1) N dA dm dc D tA tm tc T t0 t1 t2 t3 t4 t5 t6 := by
  refine ⟨((Boxed.new (N := N) (dc := dc) (tc := tc) h).below (below_alloc _ _)).below (below_alloc _ _), ?_, ?_⟩
  · rw [size_one w (.cells #[.int .i64 N, .slice dA dm dc, .slice tA tm tc] 24)]
    exact (Box.new _ _ _).below (below_alloc _ _)
  · rw [size_one w (.cells #[.int .i64 N, .slice dA dm dc, .slice tA tm tc] 24), size_one (w.alloc (.cells #[.int .i64 N, .slice dA dm dc, .slice tA tm tc] 24)) (.cells #[.int .i64 t0, .int .i64 t1, .int .i64 t2, .int .i64 t3, .int .i64 t4, .int .i64 t5, .int .i64 t6] 59)]
    exact Box.new _ _ _

theorem IntsAt.blocks {W W' : World} {A : Option Addr} {l : List Int} (h : IntsAt W A l) (hb : ∀ ad, A = some ad → W'.heap[ad.block]? = W.heap[ad.block]?) : IntsAt W' A l := by
  intro j z hz
  obtain ⟨ad, e, hc⟩ := h j z hz
  refine ⟨ad, e, ?_⟩
  have hblk : (ad.add j).block = ad.block := by unfold Addr.add; split <;> rfl
  rw [World.cell?_of_block (w := W) (w' := W') (by rw [hblk]; exact hb ad e)]
  exact hc
theorem und_trip : Try.prog.underlying 94 = some (.struct ((match Try.prog.underlying 94 with | some (.struct fs) => fs | _ => #[]))) := by kernel_rfl
theorem size_trip : (Try.prog.info? 94).map (·.size) = some 4 := by kernel_rfl
theorem load_trip {W : World} {b : Nat} {cs : Array Value} (h : Box W b cs 94) (hs : cs.size = 4) : (loadVar 94 ⟨b, 0, none⟩).run Try.prog W = .ok (.agg cs) W :=
  run_loadVar_row W b _ _ cs (0, 0) _ h und_trip rfl (by rw [hs]; exact size_trip)
theorem results_trip {fn : Func} {p u : Tmp} (h : fn.results = #[.cell p 94, .tmp u]) (tmps : Array Value) {W : World} {b : Nat} {cs : Array Value} (hb : Box W b cs 94) (hs : cs.size = 4) (hp : tmps.getD p undef = .pointer (some ⟨b, 0, none⟩)) {v : Value} (hv : tmps.getD u undef = v) :
    (results fn tmps).run Try.prog W = .ok (.tuple #[.agg cs, v]) W := by
  rw [results_cell_tmp h, hp, hv]
  simp [asAddr, Result.andThen, load_trip hb hs]
theorem trip_set {W : World} {b : Nat} {x0 x1 x2 x3 : Value} (h : Box W b #[x0, x1, x2, x3] 94) (v0 v1 v2 v3 : Value) :
    Box ((((W.setCell ⟨b, 0, none⟩ v0).setCell ⟨b, 1, none⟩ v1).setCell ⟨b, 2, none⟩ v2).setCell ⟨b, 3, none⟩ v3) b #[v0, v1, v2, v3] 94 :=
  (((h.set 0 v0 #[v0, x1, x2, x3] rfl).set 1 v1 #[v0, v1, x2, x3] rfl).set 2 v2 #[v0, v1, v2, x3] rfl).set 3 v3 #[v0, v1, v2, v3] rfl
theorem but_set4 (W : World) (b : Nat) (v0 v1 v2 v3 : Value) (k : Nat) (hk : k ≠ b) : ((((W.setCell ⟨b, 0, none⟩ v0).setCell ⟨b, 1, none⟩ v1).setCell ⟨b, 2, none⟩ v2).setCell ⟨b, 3, none⟩ v3).heap[k]? = W.heap[k]? :=
  (Go.Deep.blk_setCell_other _ _ _ _ hk).trans ((Go.Deep.blk_setCell_other _ _ _ _ hk).trans ((Go.Deep.blk_setCell_other _ _ _ _ hk).trans (Go.Deep.blk_setCell_other _ _ _ _ hk)))
theorem below_set4 {B : Nat} {w W : World} (h : Below B w W) (b : Nat) (hb : B ≤ b) (v0 v1 v2 v3 : Value) : Below B w ((((W.setCell ⟨b, 0, none⟩ v0).setCell ⟨b, 1, none⟩ v1).setCell ⟨b, 2, none⟩ v2).setCell ⟨b, 3, none⟩ v3) :=
  (((h.setCell (p := ⟨b, 0, none⟩) hb _).setCell (p := ⟨b, 1, none⟩) hb _).setCell (p := ⟨b, 2, none⟩) hb _).setCell (p := ⟨b, 3, none⟩) hb _

set_option maxHeartbeats 4000000 in
theorem drive_b (N : Int) (dA : Option Addr) (dm dc : Nat) (D : List Int) (tA : Option Addr) (tm tc : Nat) (T : List Int) (n : Nat) (t0 t1 t2 t3 t4 t5 t6 : Int) (A : Option Addr) (m c : Nat) (l : List Ld.O) (w : World) (r : Rt.R)
    (h : AreaAt w dA dm D tA tm T) (hok : Ar.okB N D T = true) (ho : Ar.Ok N D T n) (hl : l.length = m) (hm : m ≤ 12) (hla : OrdersAt w A l) (hoo : ∀ o ∈ l, Ld.OOk o N) (s0 : 0 ≤ t3) (s1 : t3 ≤ 1000000) (f0 : 0 ≤ t5) (f1 : t5 ≤ 1000000) (r0 : 0 ≤ t6) (r1 : t6 ≤ 1000)
    (hr : Rt.driveS N D T ⟨t0, t1, t2, t3, t4, t5, t6⟩ l = r) :
    Calls Try.prog 83 #[.agg #[.int .i64 N, .slice dA dm dc, .slice tA tm tc], .agg #[.int .i64 t0, .int .i64 t1, .int .i64 t2, .int .i64 t3, .int .i64 t4, .int .i64 t5, .int .i64 t6], .slice A m c] w (TripPost w r) := by
  have HX := Lib.hid (DB.new (N := N) (dc := dc) (tc := tc) (t0 := t0) (t1 := t1) (t2 := t2) (t3 := t3) (t4 := t4) (t5 := t5) (t6 := t6) h)
  have HB0 : Hid (Below w.heap.size w (((w.alloc (.cells #[.int .i64 N, .slice dA dm dc, .slice tA tm tc] 24)).alloc (.cells #[.int .i64 t0, .int .i64 t1, .int .i64 t2, .int .i64 t3, .int .i64 t4, .int .i64 t5, .int .i64 t6] 59)).alloc (.cells #[.slice none 0 0, .int .i64 0, .int .i64 0, .int .i64 0] 94))) := below_more (below_more (below_alloc _ _) _) _
  have HLA := Lib.hid (hla.below HB0.out)
  have HL := Lib.hid hl
  have HOO := Lib.hid hoo
  have HOK := Lib.hid hok
  have HO := Lib.hid ho
  have HR := Lib.hid hr
  clear h hla hl hoo hok ho hr
  go_enter Try.func83, Try.ntmps83
  have HGS : Hid (w.heap.size + 1 + 1 + 1 = (((w.alloc (.cells #[.int .i64 N, .slice dA dm dc, .slice tA tm tc] 24)).alloc (.cells #[.int .i64 t0, .int .i64 t1, .int .i64 t2, .int .i64 t3, .int .i64 t4, .int .i64 t5, .int .i64 t6] 59)).alloc (.cells #[.slice none 0 0, .int .i64 0, .int .i64 0, .int .i64 0] 94)).heap.size) := by unfold Hid; simp
  go_wp2_with fail
  generalize (((w.alloc (.cells #[.int .i64 N, .slice dA dm dc, .slice tA tm tc] 24)).alloc (.cells #[.int .i64 t0, .int .i64 t1, .int .i64 t2, .int .i64 t3, .int .i64 t4, .int .i64 t5, .int .i64 t6] 59)).alloc (.cells #[.slice none 0 0, .int .i64 0, .int .i64 0, .int .i64 0] 94)) = V at *
  have HS0 : Hid (DS V (w.heap.size + 1 + 1 + 1) ⟨0, t3, 0⟩ none 0 0 [] (V.alloc (.cells #[.int .i64 0, .int .i64 t3, .int .i64 0, .slice none 0 0] 149))) := by rw [HGS.out]; exact DS.start V t3
  have HB3 : Hid (w.heap.size ≤ w.heap.size + 1 + 1 ∧ w.heap.size + 1 + 1 < w.heap.size + 1 + 1 + 1) := ⟨by omega, by omega⟩
  clear HGS
  generalize V.alloc (.cells #[.int .i64 0, .int .i64 t3, .int .i64 0, .slice none 0 0] 149) = V1 at *
  generalize w.heap.size + 1 + 1 + 1 = g at *
  have HB3b := Lib.hid HB3.out.1
  have HB3c := Lib.hid HB3.out.2
  clear HB3
  generalize w.heap.size + 1 + 1 = b3 at *
  generalize w.heap.size + 1 = b2 at *
  generalize hb1 : w.heap.size = b1 at HX ⊢
  clear hb1
  go_loopg [7, 18] m (fun gk s7 s18 W => ∃ (k : Nat) (nd tim dis : Int) (X : Option Addr) (cx : Nat) (W0 : World), W0 = W ∧ k + gk = m ∧ s7 = .int .i64 0 ∧ s18 = .int .i64 k ∧ Hid (Rt.fin N D T ⟨0, t3, 0⟩ (l.take k) = ⟨nd, tim, dis⟩) ∧ Hid (DS V g ⟨nd, tim, dis⟩ X k cx (Rt.visits N D T ⟨0, t3, 0⟩ (l.take k)) W0) ∧ Hid (Rt.inTime N D T ⟨0, t3, 0⟩ (l.take k) = true))
  case atStart => exact ⟨0, 0, t3, 0, none, 0, _, rfl, by omega, rfl, rfl, rfl, HS0.out, rfl⟩
  case round =>
    obtain ⟨k, nd, tim, dis, X, cx, W0, rfl, hkg, rfl, rfl, HF, HS, HI⟩ := hrel
    obtain ⟨hnd, b0, b01, b02, b03⟩ := Rt.Bd.at_ HO.out HOO.out (by rw [HL.out]; exact hm) s0 s1 HF.out
    have HX0 := Lib.hid (HX.out.below HS.out.bel)
    by_cases hlt : k < m
    · obtain ⟨gk, rfl⟩ : ∃ j, gk = j + 1 := ⟨gk - 1, by omega⟩
      obtain ⟨s, hs⟩ := mlist_at l k (by rw [HL.out]; exact hlt)
      have hso := HOO.out s (List.mem_of_getElem? hs)
      have hn2 := Rt.OOk.has hso
      obtain ⟨ad, rfl, hc⟩ := (HLA.out.below HS.out.bel).at_ hs
      obtain ⟨c0, c1, c2, c3, c4, c5, c6, c7⟩ := hc
      have hsb : 0 ≤ s.frm ∧ s.frm ≤ 1000000 ∧ 0 ≤ s.service ∧ s.service ≤ 10000 := by have := hso.fr0; have := hso.fr1; have := hso.to1; have := hso.se0; have := hso.se1; omega
      obtain ⟨a0, a1, a2, a3, a4, a5, a6, a7⟩ := s
      simp only at c0 c1 c2 c3 c4 c5 c6 c7 hsb hn2
      obtain ⟨p0, p1, p2, p3⟩ := hsb
      obtain ⟨q0, q1⟩ := HO.out.at_d hnd hn2
      obtain ⟨q2, q3⟩ := HO.out.at_t hnd hn2
      have hleg := legS_ok HOK.out hnd hn2
      obtain ⟨dd, hdd⟩ : ∃ z, Ar.at2 N D nd a2 = z := ⟨_, rfl⟩
      obtain ⟨tt, htt⟩ : ∃ z, Ar.at2 N T nd a2 = z := ⟨_, rfl⟩
      obtain ⟨y, hy⟩ : ∃ z, max (tim + tt) a5 = z := ⟨_, rfl⟩
      rw [hdd] at hleg q0 q1
      rw [htt] at hleg q2 q3
      obtain ⟨n1, n2, n3⟩ := Rt.next_of HF.out hs hdd htt hy
      rw [HI.out, Bool.true_and] at n3
      have hvl : (Rt.visits N D T ⟨0, t3, 0⟩ (l.take (k + 1))).length = k + 1 := by rw [Rt.visits_len, List.length_take, HL.out]; omega
      have hvl0 : (Rt.visits N D T ⟨0, t3, 0⟩ (l.take k)).length ≤ 1000 := by rw [Rt.visits_len, List.length_take]; omega
      have HXA := Lib.hid (HX0.out.below (below_alloc W0 (.cells #[.int .i64 a0, .int .i64 a1, .int .i64 a2, .int .i64 a3, .int .i64 a4, .int .i64 a5, .int .i64 a6, .int .i64 a7] 57)))
      have x0 := HXA.out.a.c0
      have x1 := HXA.out.a.c1
      have x2 := HXA.out.a.c2
      have HC : Hid (∀ r, decide (y ≤ a6) = r → Calls Try.prog 104 #[.pointer (some ⟨g, 0, none⟩), .agg #[.int .i64 N, .slice dA dm dc, .slice tA tm tc], .agg #[.int .i64 a0, .int .i64 a1, .int .i64 a2, .int .i64 a3, .int .i64 a4, .int .i64 a5, .int .i64 a6, .int .i64 a7]] _ _) := fun r hr =>
        visit_b N dA dm dc D tA tm tc T V g nd tim dis X k cx _ a0 a1 a2 a3 a4 a5 a6 a7 dd tt y r (k + 1) _ _ HXA.out.a.rows (HS.out.below (below_alloc W0 (.cells #[.int .i64 a0, .int .i64 a1, .int .i64 a2, .int .i64 a3, .int .i64 a4, .int .i64 a5, .int .i64 a6, .int .i64 a7] 57))) hleg b0 (by omega) b02 (by omega) q0 q1 q2 q3 p0 p1 p2 p3 hy hr n2 hvl hvl0
      have HN1 := Lib.hid n1
      have HN3 := Lib.hid n3
      clear hs hso hn2 hleg n1 n2 n3 hvl hvl0 hdd htt hnd
      cases hyr : decide (y ≤ a6) with
      | true =>
        have HC2 := Lib.hid (HC.out true hyr)
        rw [hyr] at HN3
        clear hyr HC hy
        go_wp2_with fail
        with_reducible refine HC2.out.mono ?_
        rintro e w5 ⟨A', c', rfl, h5⟩
        clear x0 x1 x2 c0 c1 c2 c3 c4 c5 c6 c7
        go_wp2
        go_roundg gk
        case measure => omega
        case rel => exact ⟨k + 1, _, _, _, A', c', _, rfl, by omega, rfl, by first | rfl | go_num, HN1.out, h5.out, HN3.out⟩
      | false =>
        have HC2 := Lib.hid (HC.out false hyr)
        rw [hyr] at HN3
        have HRE : Hid (Rt.err 10 = r) := by rw [← HR.out]; exact (Rt.drive_late (Rt.late_from HN3.out)).symm
        clear hyr HC hy
        go_wp2_with fail
        with_reducible refine HC2.out.mono ?_
        rintro e w5 ⟨A', c', rfl, h5⟩
        clear x0 x1 x2 c0 c1 c2 c3 c4 c5 c6 c7
        have HX5 := Lib.hid (HX.out.below h5.out.bel)
        have z0 := HX5.out.r.cell 0 _ rfl
        have z1 := HX5.out.r.cell 1 _ rfl
        have z2 := HX5.out.r.cell 2 _ rfl
        have z3 := HX5.out.r.cell 3 _ rfl
        have f0' := HX5.out.r.fz 0
        have f1' := HX5.out.r.fz 1
        have f2' := HX5.out.r.fz 2
        have f3' := HX5.out.r.fz 3
        go_wp2
        exact bodyPost_ret (results_trip (v := .int .i64 10) rfl _ (trip_set HX5.out.r _ _ _ _) rfl rfl rfl) rfl (TripPost.err HRE.out (below_set4 (below_next HB0.out h5.out.bel) _ HB3b.out _ _ _ _))
    · obtain rfl : k = m := by omega
      have hT : l.take k = l := List.take_of_length_le (by rw [HL.out]; exact Nat.le_refl _)
      have hF := HF.out
      have hS := HS.out
      have hI := HI.out
      rw [hT] at hF hS hI
      clear hT HF HS HI
      obtain ⟨q0, q1⟩ := HO.out.at_d hnd HO.out.has0
      obtain ⟨q2, q3⟩ := HO.out.at_t hnd HO.out.has0
      have hleg := legS_ok HOK.out hnd HO.out.has0
      have HDOK : Hid (∀ _ : tim + Ar.at2 N T nd 0 ≤ t4, Rt.driveS N D T ⟨t0, t1, t2, t3, t4, t5, t6⟩ l = ⟨Rt.visits N D T ⟨0, t3, 0⟩ l, tim + Ar.at2 N T nd 0, dis + Ar.at2 N D nd 0, t5 + t6 * (dis + Ar.at2 N D nd 0), 0⟩) := fun h => Rt.drive_ok (s := ⟨nd, tim, dis⟩) hF hI h
      have HDNO : Hid (∀ _ : ¬ tim + Ar.at2 N T nd 0 ≤ t4, Rt.driveS N D T ⟨t0, t1, t2, t3, t4, t5, t6⟩ l = Rt.err 10) := fun h => Rt.drive_back (s := ⟨nd, tim, dis⟩) hF h
      generalize Ar.at2 N D nd 0 = dd at *
      generalize Ar.at2 N T nd 0 = tt at *
      have HC := Lib.hid (goTo_b N dA dm dc D tA tm tc T V g nd tim dis X k cx _ 0 dd tt W0 HX0.out.a.rows hS hleg b0 (by omega) b02 (by omega) q0 q1 q2 q3)
      clear hleg hnd hF hI
      have e0 : 0 ≤ tim + tt := by omega
      have e1 : tim + tt ≤ 30000000 := by omega
      have e2 : 0 ≤ dis + dd := by omega
      have e3 : dis + dd ≤ 30000000 := by omega
      generalize tim + tt = bk at *
      generalize dis + dd = di at *
      have e4 : 0 ≤ t6 * di := Int.mul_nonneg r0 e2
      have e5 : t6 * di ≤ 30000000000 := by
        have h1 : t6 * di ≤ 1000 * di := Int.mul_le_mul_of_nonneg_right r1 e2
        omega
      have x0 := HX0.out.a.c0
      have x1 := HX0.out.a.c1
      have x2 := HX0.out.a.c2
      have HSV := Lib.hid hS
      clear hS
      by_cases hbk : bk ≤ t4
      · have d1 : decide (t4 < bk) = false := decide_eq_false (by omega)
        have HRE : Hid (_ = r) := (HDOK.out hbk).symm.trans HR.out
        clear HDOK HDNO hbk
        go_wp2_with fail
        with_reducible refine HC.out.mono ?_
        rintro e w5 ⟨rfl, h5⟩
        clear x0 x1 x2 HC
        have HS5 := Lib.hid h5.out.1
        have HX5 := Lib.hid (HX.out.below HS5.out.bel)
        have y1 : w5.cell? ⟨g, 1, none⟩ = some (.int .i64 bk) := HS5.out.c1
        have y2 : w5.cell? ⟨g, 2, none⟩ = some (.int .i64 di) := HS5.out.c2
        have y3 : w5.cell? ⟨g, 3, none⟩ = some (.slice X k cx) := HS5.out.c3
        have u4 : w5.cell? ⟨b2, 4, none⟩ = some (.int .i64 t4) := HX5.out.t.cell 4 _ rfl
        have u5 : w5.cell? ⟨b2, 5, none⟩ = some (.int .i64 t5) := HX5.out.t.cell 5 _ rfl
        have u6 : w5.cell? ⟨b2, 6, none⟩ = some (.int .i64 t6) := HX5.out.t.cell 6 _ rfl
        have z0 := HX5.out.r.cell 0 _ rfl
        have z1 := HX5.out.r.cell 1 _ rfl
        have z2 := HX5.out.r.cell 2 _ rfl
        have z3 := HX5.out.r.cell 3 _ rfl
        have f0' := HX5.out.r.fz 0
        have f1' := HX5.out.r.fz 1
        have f2' := HX5.out.r.fz 2
        have f3' := HX5.out.r.fz 3
        clear h5
        go_wp2
        refine bodyPost_ret (results_trip (v := .int .i64 0) rfl _ (trip_set HX5.out.r _ _ _ _) rfl rfl rfl) rfl ?_
        rw [← HRE.out]
        have hcn := HS5.out.count
        obtain ⟨A', cp, ea, _, _, _, hat⟩ := HS5.out.own.row
        injection ea with ea _ _
        subst ea
        refine ⟨X, cx, by simp only [hcn.1], below_set4 (below_next HB0.out HS5.out.bel) _ HB3b.out _ _ _ _, IntsAt.blocks hcn.2.2.1 fun ad e => but_set4 _ _ _ _ _ _ _ ?_, by show _ ≤ cx; rw [hcn.1]; exact hcn.2.1, fun ad e => ?_⟩
        · have h1 := (hat ad e).1
          have h2 := HB3c.out
          omega
        · have h1 := (hat ad e).1
          have h2 := HB0.out.size
          have h3 := HS5.out.hg
          omega
      · have d1 : decide (t4 < bk) = true := decide_eq_true (by omega)
        have HRE : Hid (Rt.err 10 = r) := (HDNO.out hbk).symm.trans HR.out
        clear HDOK HDNO hbk
        go_wp2_with fail
        with_reducible refine HC.out.mono ?_
        rintro e w5 ⟨rfl, h5⟩
        clear x0 x1 x2 HC
        have HS5 := Lib.hid h5.out.1
        have HX5 := Lib.hid (HX.out.below HS5.out.bel)
        have y1 : w5.cell? ⟨g, 1, none⟩ = some (.int .i64 bk) := HS5.out.c1
        have u4 : w5.cell? ⟨b2, 4, none⟩ = some (.int .i64 t4) := HX5.out.t.cell 4 _ rfl
        have z0 := HX5.out.r.cell 0 _ rfl
        have z1 := HX5.out.r.cell 1 _ rfl
        have z2 := HX5.out.r.cell 2 _ rfl
        have z3 := HX5.out.r.cell 3 _ rfl
        have f0' := HX5.out.r.fz 0
        have f1' := HX5.out.r.fz 1
        have f2' := HX5.out.r.fz 2
        have f3' := HX5.out.r.fz 3
        clear h5
        go_wp2
        exact bodyPost_ret (results_trip (v := .int .i64 10) rfl _ (trip_set HX5.out.r _ _ _ _) rfl rfl rfl) rfl (TripPost.err HRE.out (below_set4 (below_next HB0.out HS5.out.bel) _ HB3b.out _ _ _ _))
end Go.Proofs.Ytbacakblboodeaa
