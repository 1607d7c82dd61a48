/- Contracts of package savings: the best two rows. -/
import Derived.Test.YtjidelfpmlnhkaaGreatSavB
import Derived.Test.YtjidelfpmlnhkaaGreatSavD
import Derived.Test.YtjidelfpmlnhkaaGreatPlanMem
import Derived.StillTailTactics
import Derived.WalkMore
namespace Go.Proofs.YtjidelfpmlnhkaaGreat
open Go.RowKit
set_option linter.unusedVariables false
set_option maxRecDepth 100000

theorem und_joint : Tryz.prog.underlying 101 = some (.struct ((match Tryz.prog.underlying 101 with | some (.struct fs) => fs | _ => #[]))) := by kernel_rfl
theorem size_joint : (Tryz.prog.info? 101).map (·.size) = some 3 := by kernel_rfl
theorem load_joint {W : World} {b : Nat} {cs : Array Value} (h : Box W b cs 101) (hs : cs.size = 3) : (loadVar 101 ⟨b, 0, none⟩).run Tryz.prog W = .ok (.agg cs) W :=
  run_loadVar_row W b _ _ cs (0, 0) _ h und_joint rfl (by rw [hs]; exact size_joint)
theorem results_joint {fn : Func} {p u : Tmp} (h : fn.results = #[.cell p 101, .tmp u]) (tmps : Array Value) {W : World} {b : Nat} {cs : Array Value} (hb : Box W b cs 101) (hs : cs.size = 3) (hp : tmps.getD p undef = .pointer (some ⟨b, 0, none⟩)) {v : Value} (hv : tmps.getD u undef = v) :
    (results fn tmps).run Tryz.prog W = .ok (.tuple #[.agg cs, v]) W := by
  rw [results_cell_tmp h, hp, hv]
  simp [asAddr, Result.andThen, load_joint hb hs]
theorem joint_set {W : World} {b : Nat} {x0 x1 x2 : Value} (h : Box W b #[x0, x1, x2] 101) (v0 v1 v2 : Value) : Box (((W.setCell ⟨b, 0, none⟩ v0).setCell ⟨b, 1, none⟩ v1).setCell ⟨b, 2, none⟩ v2) b #[v0, v1, v2] 101 :=
  ((h.set 0 v0 #[v0, x1, x2] rfl).set 1 v1 #[v0, v1, x2] rfl).set 2 v2 #[v0, v1, v2] rfl
theorem but_set3 (W : World) (b : Nat) (v0 v1 v2 : Value) (k : Nat) (hk : k ≠ b) : (((W.setCell ⟨b, 0, none⟩ v0).setCell ⟨b, 1, none⟩ v1).setCell ⟨b, 2, none⟩ v2).heap[k]? = W.heap[k]? :=
  (Go.Deep.blk_setCell_other _ _ _ _ hk).trans ((Go.Deep.blk_setCell_other _ _ _ _ hk).trans (Go.Deep.blk_setCell_other _ _ _ _ hk))
theorem below_set3 {B : Nat} {w W : World} (h : Below B w W) (b : Nat) (hb : B ≤ b) (v0 v1 v2 : Value) : Below B w (((W.setCell ⟨b, 0, none⟩ v0).setCell ⟨b, 1, none⟩ v1).setCell ⟨b, 2, none⟩ v2) :=
  ((h.setCell (p := ⟨b, 0, none⟩) hb _).setCell (p := ⟨b, 1, none⟩) hb _).setCell (p := ⟨b, 2, none⟩) hb _

/-- a row of numbers of one's own is a row -/
theorem rw_own {W : World} {b n c : Nat} {A : Option Addr} {l : List Int} (h : OwnI W b (.slice A n c) l) (hn : n ≤ 100) : RwOk W ⟨A, n, c, l⟩ := by
  obtain ⟨A', c', e, h1, h2, h3⟩ := h.ints
  injection e with e1 e2 e3
  subst e1 e2 e3
  refine ⟨rfl, hn, h3, fun ad e => ?_⟩
  rcases h.2 with ⟨e2, _⟩ | ⟨g, cap, cur, e2, hbg, hg, _⟩
  · injection e2 with e2 _ _
    have e : A = some ad := e
    rw [e2] at e
    cases e
  · injection e2 with e2 _ _
    have e : A = some ad := e
    rw [e2] at e
    obtain rfl := Option.some.inj e
    exact ⟨_, _, hg⟩

/-- what is known while the best two are looked for -/
structure BS (w : World) (b1 : Nat) (x : Wd) (base : Nat) (A : Option Addr) (l : List Rw) (a b : Nat) (m : Int) (j : Rw) (W : World) : Prop where
  x0 : WAt w x
  r0 : SR w base A l
  bel : Below w.heap.size w W
  box : Box W b1 x.cells 28
  res : Box W (b1 + 1) #[.int .i64 0, .int .i64 0, .slice none 0 0] 101
  fnd : Box W (b1 + 1 + 1) #[.int .i64 a, .int .i64 b, .slice j.A j.m j.c] 101
  row : 0 < m → RwOk W j ∧ j.st = Sv.rowAt (sts l) a ++ Sv.rowAt (sts l) b
theorem BS.below {w W W' : World} {b1 base a b : Nat} {x : Wd} {A : Option Addr} {l : List Rw} {m : Int} {j : Rw} (h : BS w b1 x base A l a b m j W) (hb : Below W.heap.size W W') : BS w b1 x base A l a b m j W' :=
  ⟨h.x0, h.r0, below_next h.bel hb, h.box.below hb, h.res.below hb, h.fnd.below hb, fun hm => ⟨(h.row hm).1.below hb, (h.row hm).2⟩⟩
theorem BS.wx {w W : World} {b1 base a b : Nat} {x : Wd} {A : Option Addr} {l : List Rw} {m : Int} {j : Rw} (h : BS w b1 x base A l a b m j W) : WX W b1 x := ⟨h.box, h.x0.below h.bel⟩
theorem BS.rows {w W : World} {b1 base a b : Nat} {x : Wd} {A : Option Addr} {l : List Rw} {m : Int} {j : Rw} (h : BS w b1 x base A l a b m j W) : SR W base A l := h.r0.below h.bel
theorem BS.new {w : World} {x : Wd} {base : Nat} {A : Option Addr} {l : List Rw} (hx : WAt w x) (hr : SR w base A l) : BS w w.heap.size x base A l 0 0 0 ⟨none, 0, 0, []⟩ (((w.alloc (.cells #[.int .i64 x.N, .slice x.dA x.dm x.dc, .slice x.tA x.tm x.tc, .slice x.A x.m x.c, .slice x.B x.k x.d] 28)).alloc (.cells #[.int .i64 0, .int .i64 0, .slice none 0 0] 101)).alloc (.cells #[.int .i64 0, .int .i64 0, .slice none 0 0] 101)) := by
  refine ⟨hx, hr, below_more (below_more (below_alloc _ _) _) _, ((Box.new w _ _).below (below_alloc _ _)).below (below_alloc _ _), ?_, ?_, fun h => by omega⟩
  · rw [size_one w (.cells #[.int .i64 x.N, .slice x.dA x.dm x.dc, .slice x.tA x.tm x.tc, .slice x.A x.m x.c, .slice x.B x.k x.d] 28)]
    exact (Box.new _ _ _).below (below_alloc _ _)
  · rw [size_one w (.cells #[.int .i64 x.N, .slice x.dA x.dm x.dc, .slice x.tA x.tm x.tc, .slice x.A x.m x.c, .slice x.B x.k x.d] 28), size_one (w.alloc (.cells #[.int .i64 x.N, .slice x.dA x.dm x.dc, .slice x.tA x.tm x.tc, .slice x.A x.m x.c, .slice x.B x.k x.d] 28)) (.cells #[.int .i64 0, .int .i64 0, .slice none 0 0] 101)]
    exact Box.new _ _ _
theorem BS.put {w W : World} {b1 base a b a' b' : Nat} {x : Wd} {A : Option Addr} {l : List Rw} {m m' : Int} {j j' : Rw} (h : BS w b1 x base A l a b m j W) (hw : w.heap.size = b1) (hj : RwOk W j') (he : j'.st = Sv.rowAt (sts l) a' ++ Sv.rowAt (sts l) b') :
    BS w b1 x base A l a' b' m' j' (((W.setCell ⟨b1 + 1 + 1, 0, none⟩ (.int .i64 a')).setCell ⟨b1 + 1 + 1, 1, none⟩ (.int .i64 b')).setCell ⟨b1 + 1 + 1, 2, none⟩ (.slice j'.A j'.m j'.c)) := by
  have hbt : ButB (b1 + 1 + 1) W (((W.setCell ⟨b1 + 1 + 1, 0, none⟩ (.int .i64 a')).setCell ⟨b1 + 1 + 1, 1, none⟩ (.int .i64 b')).setCell ⟨b1 + 1 + 1, 2, none⟩ (.slice j'.A j'.m j'.c)) := fun k _ hk => but_set3 _ _ _ _ _ _ hk
  have hki : KeepI W (((W.setCell ⟨b1 + 1 + 1, 0, none⟩ (.int .i64 a')).setCell ⟨b1 + 1 + 1, 1, none⟩ (.int .i64 b')).setCell ⟨b1 + 1 + 1, 2, none⟩ (.slice j'.A j'.m j'.c)) := fun k cs fz e => hbt k (Array.getElem?_eq_some_iff.1 e).1 fun hk => by
    subst hk
    rw [show W.heap[b1 + 1 + 1]? = _ from h.fnd] at e
    injection e with e
    injection e with _ e _
    cases e
  have hbl := below_set3 h.bel (b1 + 1 + 1) (by omega) (.int .i64 a') (.int .i64 b') (.slice j'.A j'.m j'.c)
  exact ⟨h.x0, h.r0, hbl, (hbt _ h.box.lt (by omega)).trans h.box, (hbt _ h.res.lt (by omega)).trans h.res, joint_set h.fnd _ _ _, fun _ => ⟨hj.keep hki, he⟩⟩

theorem BS.fin {w W : World} {b1 base a b : Nat} {x : Wd} {A : Option Addr} {l : List Rw} {m : Int} {j : Rw} (h : BS w b1 x base A l a b m j W) (hw : w.heap.size = b1) (v0 v1 v2 : Value) :
    Below w.heap.size w (((W.setCell ⟨b1 + 1, 0, none⟩ v0).setCell ⟨b1 + 1, 1, none⟩ v1).setCell ⟨b1 + 1, 2, none⟩ v2) ∧ (0 < m → RwOk (((W.setCell ⟨b1 + 1, 0, none⟩ v0).setCell ⟨b1 + 1, 1, none⟩ v1).setCell ⟨b1 + 1, 2, none⟩ v2) j ∧ j.st = Sv.rowAt (sts l) a ++ Sv.rowAt (sts l) b) := by
  refine ⟨below_set3 h.bel (b1 + 1) (by omega) _ _ _, fun hm => ⟨(h.row hm).1.keep fun k cs fz e => but_set3 _ _ _ _ _ _ fun hk => ?_, (h.row hm).2⟩⟩
  subst hk
  rw [show W.heap[b1 + 1]? = _ from h.res] at e
  injection e with e
  injection e with _ e _
  cases e

/-- what a call that tells the best two rows leaves -/
def BestPost (w : World) (x : Wd) (l : List Rw) (n : Nat) (e : Ending) (w' : World) : Prop := ∃ (a b : Nat) (m : Int) (j : Rw), e = .returned (.tuple #[.agg #[.int .i64 a, .int .i64 b, .slice j.A j.m j.c], .bool (decide (0 < m))]) ∧ Hid (Below w.heap.size w w' ∧ Sv.Bst (Sv.gainAt x.N x.D x.T x.os x.ts (sts l)) n 0 a b m ∧ (0 < m → RwOk w' j ∧ j.st = Sv.rowAt (sts l) a ++ Sv.rowAt (sts l) b))
set_option maxHeartbeats 16000000 in
theorem best_b (x : Wd) (base : Nat) (A : Option Addr) (n c : Nat) (l : List Rw) (w : World) (hx : WAt w x) (hn : l.length = n) (hn2 : n ≤ 1000) (h12 : ∀ r ∈ l, r.m ≤ 12) (hr : SR w base A l) :
    Calls Tryz.prog 61 #[.agg #[.int .i64 x.N, .slice x.dA x.dm x.dc, .slice x.tA x.tm x.tc, .slice x.A x.m x.c, .slice x.B x.k x.d], .slice A n c] w (BestPost w x l n) := by
  have HX := Lib.hid (BS.new hx hr)
  have HN := Lib.hid hn
  have H12 := Lib.hid h12
  have hk2 := hx.k2
  have HKL := Lib.hid hx.kl
  obtain ⟨G, hG⟩ : ∃ G, Sv.gainAt x.N x.D x.T x.os x.ts (sts l) = G := ⟨_, rfl⟩
  have HGE : Hid (∀ (i k : Nat) (ri rk : Rw), l[i]? = some ri → l[k]? = some rk → i ≠ k → G i k = Sv.gain x.N x.D x.T x.os x.ts ri.st rk.st) := fun i k ri rk h1 h2 h3 => by
    rw [← hG]
    unfold Sv.gainAt
    rw [if_neg h3, rowAt_sts h1, rowAt_sts h2]
  have HG0 : Hid (∀ i, G i i = 0) := fun i => by rw [← hG]; unfold Sv.gainAt; rw [if_pos rfl]
  have HGN : Hid (∀ i k, n ≤ k → G i k = 0) := fun i k h => by
    rw [← hG]
    unfold Sv.gainAt
    split
    · rfl
    · rw [Sv.rowAt_none (i := k) (by rw [sts_len, hn]; exact h), Sv.gain_none2]
  have HPO : Hid (∀ (e : Ending) (w' : World) (a b : Nat) (m : Int) (j : Rw), e = .returned (.tuple #[.agg #[.int .i64 a, .int .i64 b, .slice j.A j.m j.c], .bool (decide (0 < m))]) → Below w.heap.size w w' → Sv.Bst G n 0 a b m → (0 < m → RwOk w' j ∧ j.st = Sv.rowAt (sts l) a ++ Sv.rowAt (sts l) b) → BestPost w x l n e w') := fun e w' a b m j h1 h2 h3 h4 => by
    subst hG
    exact ⟨a, b, m, j, h1, h2, h3, h4⟩
  clear hx hr hn hG h12
  go_enter Tryz.func61, Tryz.ntmps61
  go_wp2_with fail
  generalize (((w.alloc (.cells #[.int .i64 x.N, .slice x.dA x.dm x.dc, .slice x.tA x.tm x.tc, .slice x.A x.m x.c, .slice x.B x.k x.d] 28)).alloc (.cells #[.int .i64 0, .int .i64 0, .slice none 0 0] 101)).alloc (.cells #[.int .i64 0, .int .i64 0, .slice none 0 0] 101)) = V at *
  generalize hb1 : w.heap.size = b1 at HX ⊢
  have HBE := Lib.hid hb1
  clear hb1
  go_loopg [7, 19] n (fun gk s7 s19 Wx => ∃ (i a b : Nat) (m : Int) (j : Rw) (W : World), W = Wx ∧ i + gk = n ∧ s19 = .int .i64 i ∧ s7 = .int .i64 m ∧ Hid (BS w b1 x base A l a b m j W) ∧ Hid (Sv.Bst G i 0 a b m))
  case atStart => exact ⟨0, 0, 0, 0, _, _, rfl, by omega, rfl, rfl, HX.out, Sv.Bst.zero _⟩
  case round =>
    obtain ⟨i, a0, b0, m0, j0, W0, rfl, hig, rfl, rfl, HB0, HT0⟩ := hrel
    by_cases hlt : i < n
    · obtain ⟨go, rfl⟩ : ∃ j, gk = j + 1 := ⟨gk - 1, by omega⟩
      obtain ⟨ri, hri⟩ := mlist_at l i (by rw [HN.out]; exact hlt)
      have HRI := Lib.hid hri
      have i2 : (i : Int) < (n : Int) := by omega
      clear hri
      go_wp2_with fail
      go_step3
      go_wp2
      go_step3
      go_wp2
      go_loopg [7, 24] n (fun gk s7 s24 Wx => ∃ (k a b : Nat) (m : Int) (j : Rw) (W : World), W = Wx ∧ k + gk = n ∧ s24 = .int .i64 k ∧ s7 = .int .i64 m ∧ Hid (BS w b1 x base A l a b m j W) ∧ Hid (Sv.Bst G i k a b m))
      case atStart => exact ⟨0, a0, b0, m0, j0, _, rfl, by omega, rfl, rfl, HB0.out, HT0.out⟩
      case round =>
        clear HB0 HT0
        obtain ⟨k, a, b, m, j, W, rfl, hkg, rfl, rfl, HB, HT⟩ := hrel
        by_cases hklt : k < n
        · obtain ⟨gi, rfl⟩ : ∃ j, gk = j + 1 := ⟨gk - 1, by omega⟩
          by_cases hik : i = k
          · have e0 : ((i : Int) == (k : Int)) = true := by rw [hik]; simp
            have e0' : (i == k) = true := by rw [hik]; simp
            have HT2 := Lib.hid (HT.out.skip (by rw [hik, HG0.out]; exact HT.out.m0))
            clear hik
            go_wp2
            go_roundg gi
            case measure => omega
            case rel => exact ⟨k + 1, a, b, m, j, _, rfl, by omega, by first | rfl | go_num, rfl, HB.out, HT2.out⟩
          · have e0 : ((i : Int) == (k : Int)) = false := by rw [beq_eq_false_iff_ne]; omega
            have e0' : (i == k) = false := by rw [beq_eq_false_iff_ne]; omega
            obtain ⟨rk, hrk⟩ := mlist_at l k (by rw [HN.out]; exact hklt)
            have HRK := Lib.hid hrk
            have HGK := Lib.hid (HGE.out i k ri rk HRI.out hrk hik)
            obtain ⟨ad, hA, hci, hoi⟩ := HB.out.rows.cell HRI.out
            obtain ⟨ad2, hA2, hck, hok⟩ := HB.out.rows.cell hrk
            rw [hA] at hA2
            obtain rfl := Option.some.inj hA2
            have HA := Lib.hid hA
            have HOI := Lib.hid hoi
            have HOK := Lib.hid hok
            have k2 : (k : Int) < (n : Int) := by omega
            clear hrk hA hA2 hoi hok hik
            obtain ⟨p, hp⟩ : ∃ p, Sv.savS x.N x.D x.T x.os x.ts ri.st rk.st = p := ⟨_, rfl⟩
            obtain ⟨sv, er⟩ := p
            have HP := Lib.hid hp
            clear hp
            have HCE : Hid (∀ U, Below W.heap.size W U → (U.cell? ⟨b1, 0, none⟩ = some (.int .i64 x.N) ∧ U.cell? ⟨b1, 1, none⟩ = some (.slice x.dA x.dm x.dc) ∧ U.cell? ⟨b1, 2, none⟩ = some (.slice x.tA x.tm x.tc) ∧ U.cell? ⟨b1, 3, none⟩ = some (.slice x.A x.m x.c) ∧ U.cell? ⟨b1, 4, none⟩ = some (.slice x.B x.k x.d) ∧ U.cell? (ad.add i) = some (.slice ri.A ri.m ri.c) ∧ U.cell? (ad.add k) = some (.slice rk.A rk.m rk.c) ∧ Below W.heap.size W U)) := fun U hU => ⟨(HB.out.wx.below hU).c0, (HB.out.wx.below hU).c1, (HB.out.wx.below hU).c2, (HB.out.wx.below hU).c3, (HB.out.wx.below hU).c4, by rw [hU.cell (p := ad.add i) (lt_of_cell hci)]; exact hci, by rw [hU.cell (p := ad.add k) (lt_of_cell hck)]; exact hck, hU⟩
            have HC1 : Hid (∀ U, (U.cell? ⟨b1, 0, none⟩ = some (.int .i64 x.N) ∧ U.cell? ⟨b1, 1, none⟩ = some (.slice x.dA x.dm x.dc) ∧ U.cell? ⟨b1, 2, none⟩ = some (.slice x.tA x.tm x.tc) ∧ U.cell? ⟨b1, 3, none⟩ = some (.slice x.A x.m x.c) ∧ U.cell? ⟨b1, 4, none⟩ = some (.slice x.B x.k x.d) ∧ U.cell? (ad.add i) = some (.slice ri.A ri.m ri.c) ∧ U.cell? (ad.add k) = some (.slice rk.A rk.m rk.c) ∧ Below W.heap.size W U) → Calls Tryz.prog 9 #[.agg #[.int .i64 x.N, .slice x.dA x.dm x.dc, .slice x.tA x.tm x.tc, .slice x.A x.m x.c, .slice x.B x.k x.d], .slice ri.A ri.m ri.c, .slice rk.A rk.m rk.c] U fun e U => e = .returned (.tuple #[.int .i64 sv, .int .i64 er]) ∧ (U.cell? ⟨b1, 0, none⟩ = some (.int .i64 x.N) ∧ U.cell? ⟨b1, 1, none⟩ = some (.slice x.dA x.dm x.dc) ∧ U.cell? ⟨b1, 2, none⟩ = some (.slice x.tA x.tm x.tc) ∧ U.cell? ⟨b1, 3, none⟩ = some (.slice x.A x.m x.c) ∧ U.cell? ⟨b1, 4, none⟩ = some (.slice x.B x.k x.d) ∧ U.cell? (ad.add i) = some (.slice ri.A ri.m ri.c) ∧ U.cell? (ad.add k) = some (.slice rk.A rk.m rk.c) ∧ Below W.heap.size W U)) := by
              rintro U ⟨_, _, _, _, _, _, _, h⟩
              exact (saved_b x ri.A ri.m ri.c ri.st rk.A rk.m rk.c rk.st U (sv, er) HP.out (HB.out.wx.below h).at_ HOI.out.sl (by have := HOI.out.s2; omega) (HOI.out.below h).st HOK.out.sl (by have := HOK.out.s2; omega) (HOK.out.below h).st).mono fun _ _ ⟨e1, e2⟩ => ⟨e1, HCE.out _ (below_next h e2.out)⟩
            obtain ⟨y0, y1, y2, y3, y4, y5, y6, hB0⟩ := HCE.out W (Below.refl _ _)
            have hB := hB0.drew
            clear HCE
            obtain rfl := HA.out
            go_wp2
            go_region_held3 (fun U : World => (U.cell? ⟨b1, 0, none⟩ = some (.int .i64 x.N) ∧ U.cell? ⟨b1, 1, none⟩ = some (.slice x.dA x.dm x.dc) ∧ U.cell? ⟨b1, 2, none⟩ = some (.slice x.tA x.tm x.tc) ∧ U.cell? ⟨b1, 3, none⟩ = some (.slice x.A x.m x.c) ∧ U.cell? ⟨b1, 4, none⟩ = some (.slice x.B x.k x.d) ∧ U.cell? (ad.add i) = some (.slice ri.A ri.m ri.c) ∧ U.cell? (ad.add k) = some (.slice rk.A rk.m rk.c) ∧ Below W.heap.size W U)) (first | exact ⟨y0, y1, y2, y3, y4, y5, y6, hB⟩ | exact ⟨k0, k1, k2', k3, k4, k5, k6, kb⟩ | assumption)
              (first
                | (go_at_call 9; ((with_reducible refine (HC1.out _ (by assumption)).mono ?_)); rintro e w7 ⟨rfl, k0, k1, k2', k3, k4, k5, k6, kb⟩))
            have HB2 := Lib.hid (HB.out.below kb)
            have c5 := k5
            have c6 := k6
            clear y0 y1 y2 y3 y4 y5 y6 hB0 hB k0 k1 k2' k3 k4 k5 k6 kb HC1 HB
            have hs1 : (Sv.savS x.N x.D x.T x.os x.ts ri.st rk.st).1 = sv := by rw [HP.out]
            have hs2 : (Sv.savS x.N x.D x.T x.os x.ts ri.st rk.st).2 = er := by rw [HP.out]
            have HS1 := Lib.hid hs1
            have HS2 := Lib.hid hs2
            clear hs1 hs2
            by_cases her : er = 0
            · subst her
              have e1 : ((0 : Int) != (0 : Int)) = false := by decide
              by_cases hle : sv ≤ m
              · have d1 : decide (sv ≤ m) = true := decide_eq_true hle
                have HT2 := Lib.hid (HT.out.skip (by
                  rw [HGK.out]
                  have h0 := HT.out.m0
                  rcases Sv.gain_le (N := x.N) (D := x.D) (T := x.T) (os := x.os) (ts := x.ts) ri.st rk.st with h | h
                  · rw [HS1.out] at h; omega
                  · rw [h]; exact h0))
                clear hle c5 c6
                go_wp2
                go_roundg gi
                case measure => omega
                case rel => exact ⟨k + 1, a, b, m, j, _, rfl, by omega, by first | rfl | go_num, rfl, HB2.out, HT2.out⟩
              · have d1 : decide (sv ≤ m) = false := decide_eq_false hle
                have HLE : Hid (m < sv) := by unfold Hid; omega
                clear hle
                have HCAT : Hid (∀ U, BS w b1 x base (some ad) l a b m j U → Calls Tryz.prog 97 #[.slice (some ⟨U.heap.size, 0, none⟩) 2 2] (U.alloc (.cells #[.slice ri.A ri.m ri.c, .slice rk.A rk.m rk.c] 29)) fun e w' => ∃ jr : Rw, e = .returned (.slice jr.A jr.m jr.c) ∧ jr.st = ri.st ++ rk.st ∧ Hid (RwOk w' jr ∧ BS w b1 x base (some ad) l a b m j w')) := fun U hU => by
                  have hri := hU.rows.ok ri (List.mem_of_getElem? HRI.out)
                  have hrk := hU.rows.ok rk (List.mem_of_getElem? HRK.out)
                  have hbx : Box (U.alloc (.cells #[.slice ri.A ri.m ri.c, .slice rk.A rk.m rk.c] 29)) U.heap.size #[.slice ri.A ri.m ri.c, .slice rk.A rk.m rk.c] 29 := Box.new _ _ _
                  refine (concat_b ⟨U.heap.size, 0, none⟩ 2 ri rk _ (hbx.cell 0 _ rfl) (hbx.cell 1 _ rfl) (hri.below (below_alloc _ _)) (hrk.below (below_alloc _ _))).mono ?_
                  rintro e w' ⟨A', c', rfl, h2⟩
                  have h3 := H12.out ri (List.mem_of_getElem? HRI.out)
                  have h4 := H12.out rk (List.mem_of_getElem? HRK.out)
                  exact ⟨⟨A', ri.m + rk.m, c', ri.st ++ rk.st⟩, rfl, rfl, rw_own h2.out.1 (by omega), (hU.below (below_alloc _ _)).below h2.out.2⟩
                go_wp2
                go_still_tail 8, (by kernel_rfl)
                rename World => W1
                change wpList _ _ _ _ _ W1.drew
                have HB3 : Hid (BS w b1 x base (some ad) l a b m j W1.drew) := HB2.out.below (Below.refl _ _).drew
                clear c5 c6 HB2
                generalize W1.drew = W2 at *
                go_wp2_with fail
                with_reducible refine (HCAT.out _ HB3.out).mono ?_
                rintro e W3 ⟨jr, rfl, hjs, h3⟩
                have HJS := Lib.hid hjs
                have HB4 := Lib.hid h3.out.2
                have HJ4 := Lib.hid h3.out.1
                clear hjs h3 HB3 HCAT
                have HRUN : Hid (∀ (u : Int) (U : World), WAt U x → RwOk U jr → Calls Tryz.prog 21 #[.agg #[.int .i64 x.N, .slice x.dA x.dm x.dc, .slice x.tA x.tm x.tc, .slice x.A x.m x.c, .slice x.B x.k x.d], .agg #[.int .i64 u, .slice jr.A jr.m jr.c]] U (TripPost U (Rt.runS x.N x.D x.T x.os x.ts u (ri.st ++ rk.st)))) := fun u U h1 h2 => by
                  rw [← HJS.out]
                  exact run_b x (jr.rd u) U _ rfl h1 (h2.rat u)
                have x4 := HB4.out.wx.c4
                go_wp2_with fail
                clear x4
                go_loopg [7, 63] x.k (fun gk s7 s63 Wx => ∃ (q : Nat) (W : World), W = Wx ∧ q + gk = x.k ∧ s7 = .int .i64 m ∧ s63 = .int .i64 q ∧ Hid (BS w b1 x base (some ad) l a b m j W) ∧ Hid (RwOk W jr) ∧ Hid (∀ (p : Nat) (t : Ld.T), p < q → x.ts[p]? = some t → ¬ (Rt.runS x.N x.D x.T x.os x.ts t.id (ri.st ++ rk.st)).e = 0))
                case atStart => exact ⟨0, _, rfl, by omega, rfl, rfl, HB4.out, HJ4.out, fun p t hp => by omega⟩
                case round =>
                  clear HB4 HJ4
                  obtain ⟨q, W, rfl, hqg, rfl, rfl, HB, HJ, HQ⟩ := hrel
                  by_cases hqlt : q < x.k
                  · obtain ⟨gt, rfl⟩ : ∃ j, gk = j + 1 := ⟨gk - 1, by omega⟩
                    obtain ⟨⟨t0, t1, t2, t3, t4, t5, t6⟩, ht⟩ := mlist_at x.ts q (by rw [HKL.out]; exact hqlt)
                    obtain ⟨bd, hBd, c0, c1, c2, c3, c4, c5, c6⟩ := HB.out.wx.at_.ts.at_ ht
                    have HTT := Lib.hid ht
                    have HBD := Lib.hid hBd
                    have q2 : (q : Int) < (x.k : Int) := by omega
                    have HB5 := Lib.hid (HB.out.below (below_alloc W (.cells #[.int .i64 t0, .int .i64 t1, .int .i64 t2, .int .i64 t3, .int .i64 t4, .int .i64 t5, .int .i64 t6] 51)))
                    have HJ5 := Lib.hid (HJ.out.below (below_alloc W (.cells #[.int .i64 t0, .int .i64 t1, .int .i64 t2, .int .i64 t3, .int .i64 t4, .int .i64 t5, .int .i64 t6] 51)))
                    have u0 : (W.alloc (.cells #[.int .i64 t0, .int .i64 t1, .int .i64 t2, .int .i64 t3, .int .i64 t4, .int .i64 t5, .int .i64 t6] 51)).cell? ⟨W.heap.size, 0, none⟩ = some (.int .i64 t0) := (Box.new W _ _).cell 0 _ rfl
                    clear ht hBd
                    simp only at c0 c1 c2 c3 c4 c5 c6
                    have HC := Lib.hid (HRUN.out t0 (W.alloc (.cells #[.int .i64 t0, .int .i64 t1, .int .i64 t2, .int .i64 t3, .int .i64 t4, .int .i64 t5, .int .i64 t6] 51)) HB5.out.wx.at_ HJ5.out)
                    have z0 := HB5.out.wx.c0
                    have z1 := HB5.out.wx.c1
                    have z2 := HB5.out.wx.c2
                    have z3 := HB5.out.wx.c3
                    have z4 := HB5.out.wx.c4
                    generalize x.B = xB at *
                    obtain rfl := HBD.out
                    go_wp2_with fail
                    clear z0 z1 z2 z3 z4 c0 c1 c2 c3 c4 c5 c6 u0
                    with_reducible refine HC.out.mono ?_
                    rintro e W5 ⟨tA, tc, rfl, h5⟩
                    obtain ⟨res, hres⟩ : ∃ res, Rt.runS x.N x.D x.T x.os x.ts t0 (ri.st ++ rk.st) = res := ⟨_, rfl⟩
                    have HRES := Lib.hid hres
                    rw [hres] at h5 ⊢
                    have HB6 := Lib.hid ((HB5.out.below h5.out.1).below (below_alloc W5 (.cells #[.slice tA res.vs.length tc, .int .i64 res.back, .int .i64 res.dist, .int .i64 res.cost] 54)))
                    have HJ6 := Lib.hid ((HJ5.out.below h5.out.1).below (below_alloc W5 (.cells #[.slice tA res.vs.length tc, .int .i64 res.back, .int .i64 res.dist, .int .i64 res.cost] 54)))
                    clear h5 hres HC HB5 HJ5
                    obtain ⟨vs, back, dist, cost, er⟩ := res
                    simp only at *
                    by_cases he : er = 0
                    · subst he
                      have e4 : ((0 : Int) == (0 : Int)) = true := by decide
                      have HTK := Lib.hid (HT.out.take (g := G) (z := sv) (by
                        rw [HGK.out, Sv.gain_yes (by rw [HS1.out]; have := HT.out.m0; have := HLE.out; omega) (Sv.can_of HTT.out (by rw [HRES.out]))]
                        exact HS1.out) HLE.out)
                      have f0 := HB6.out.fnd.cell 0 _ rfl
                      have f1 := HB6.out.fnd.cell 1 _ rfl
                      have f2 := HB6.out.fnd.cell 2 _ rfl
                      have g0 := HB6.out.fnd.fz 0
                      have g1 := HB6.out.fnd.fz 1
                      have g2 := HB6.out.fnd.fz 2
                      go_wp2
                      go_roundg gi
                      case measure => omega
                      case rel => exact ⟨k + 1, i, k, sv, jr, _, rfl, by omega, by first | rfl | go_num, rfl, HB6.out.put HBE.out HJ6.out (by rw [HJS.out, rowAt_sts HRI.out, rowAt_sts HRK.out]), HTK.out⟩
                    · have e4 : (er == (0 : Int)) = false := by rw [beq_eq_false_iff_ne]; exact he
                      have HQ2 : Hid (∀ (p : Nat) (t : Ld.T), p < q + 1 → x.ts[p]? = some t → ¬ (Rt.runS x.N x.D x.T x.os x.ts t.id (ri.st ++ rk.st)).e = 0) := fun p t hp hpt => by
                        by_cases e : p = q
                        · subst e
                          rw [HTT.out] at hpt
                          obtain rfl := Option.some.inj hpt
                          rw [show (Rt.runS x.N x.D x.T x.os x.ts t0 (ri.st ++ rk.st)) = _ from HRES.out]
                          exact he
                        · exact HQ.out p t (by omega) hpt
                      go_wp2
                      go_roundg gt
                      case measure => omega
                      case rel => exact ⟨q + 1, _, rfl, by omega, rfl, by first | rfl | go_num, HB6.out, HJ6.out, HQ2.out⟩
                  · have hq : q = x.k := by omega
                    have HCN : Hid (Sv.canB x.N x.D x.T x.os x.ts (ri.st ++ rk.st) = false) := Sv.can_no fun p t hp => HQ.out p t (by have := (List.getElem?_eq_some_iff.1 hp).1; rw [HKL.out] at this; omega) hp
                    have HT2 := Lib.hid (HT.out.skip (by rw [HGK.out, Sv.gain_no2 HCN.out]; exact HT.out.m0))
                    clear hqlt
                    go_wp2
                    go_roundg gi
                    case measure => omega
                    case rel => exact ⟨k + 1, a, b, m, j, _, rfl, by omega, by first | rfl | go_num, rfl, HB.out, HT2.out⟩
            · have e1 : (er != (0 : Int)) = true := bne_iff_ne.2 her
              have HT2 := Lib.hid (HT.out.skip (by
                rw [HGK.out, Sv.gain_no1 (by rw [Sv.sav_err (by rw [HS2.out]; exact her)]; omega)]
                exact HT.out.m0))
              clear her c5 c6
              go_wp2
              go_roundg gi
              case measure => omega
              case rel => exact ⟨k + 1, a, b, m, j, _, rfl, by omega, by first | rfl | go_num, rfl, HB2.out, HT2.out⟩
        · have hk : k = n := by omega
          have HT2 := Lib.hid (HT.out.row (fun q hq => HGN.out i q (by omega)))
          clear hklt
          go_wp2
          rw [Exit.noGoto_normal]
          go_wp2
          go_roundg go
          case measure => omega
          case rel => exact ⟨i + 1, a, b, m, j, _, rfl, by omega, by first | rfl | go_num, rfl, HB.out, HT2.out⟩
    · have hk : i = n := by omega
      subst hk
      have f0 := HB0.out.fnd.cell 0 _ rfl
      have f1 := HB0.out.fnd.cell 1 _ rfl
      have f2 := HB0.out.fnd.cell 2 _ rfl
      have r0 := HB0.out.res.cell 0 _ rfl
      have r1 := HB0.out.res.cell 1 _ rfl
      have r2 := HB0.out.res.cell 2 _ rfl
      have g0 := HB0.out.res.fz 0
      have g1 := HB0.out.res.fz 1
      have g2 := HB0.out.res.fz 2
      go_wp2
      have hfin := HB0.out.fin HBE.out (.int .i64 a0) (.int .i64 b0) (.slice j0.A j0.m j0.c)
      exact bodyPost_ret (results_joint rfl _ (joint_set HB0.out.res _ _ _) rfl rfl rfl) rfl (HPO.out _ _ a0 b0 m0 j0 rfl hfin.1 HT0.out hfin.2)
end Go.Proofs.YtjidelfpmlnhkaaGreat
