/- Texts joined: Contracts of package savings: rows are joined, till no two can be. Contracts of package savings: the rows of a world, joined and sorted. -/
import Derived.Test.YtjidelfpmlnhkaaGreatSavE
import Derived.Test.YtjidelfpmlnhkaaGreatSavShelf
import Derived.Test.YtjidelfpmlnhkaaGreatSavF
section
/-! Contracts of package savings: rows are joined, till no two can be. -/
namespace Go.Proofs.YtjidelfpmlnhkaaGreat
open Go.RowKit
set_option linter.unusedVariables false
set_option maxRecDepth 100000

theorem map_erase {α β : Type} (f : α → β) (l : List α) (k : Nat) : (l.eraseIdx k).map f = (l.map f).eraseIdx k := by
  induction l generalizing k with
  | nil => rfl
  | cons a l ih =>
    cases k with
    | zero => rfl
    | succ k => simp [ih]
theorem sts_next {l : List Rw} {a b : Nat} {j : Rw} (h : j.st = Sv.rowAt (sts l) a ++ Sv.rowAt (sts l) b) : sts ((l.set a j).eraseIdx b) = Sv.nextL (sts l) a b := by
  unfold sts Sv.nextL
  rw [map_erase, List.map_set, h]
  rfl
/-- a store into a row of rows -/
theorem sr_set {W : World} {base g a : Nat} {l : List Rw} {j : Rw} (h : SR W base (some ⟨g, 0, none⟩) l) (ha : a < l.length) (hj : RwOk W j) :
    SR (W.setCell ⟨g, a, none⟩ (.slice j.A j.m j.c)) base (some ⟨g, 0, none⟩) (l.set a j) := by
  obtain ⟨r0, hr0⟩ := mlist_at l a ha
  obtain ⟨g', cs, e, hbg, hbx, hcs⟩ := h.block hr0
  obtain rfl : g = g' := by injection e with e; injection e
  have hbx2 := hbx.set a (.slice j.A j.m j.c) _ rfl
  have hki : KeepI W (W.setCell ⟨g, a, none⟩ (.slice j.A j.m j.c)) := KeepI.but hbx fun k _ hk => Go.Deep.blk_setCell_other _ _ _ _ hk
  refine ⟨fun k r hr => ⟨g, _, rfl, hbg, hbx2, ?_⟩, fun r hr => ?_⟩
  · have hk : k < cs.size := by
      have h1 : k < l.length := by have := (List.getElem?_eq_some_iff.1 hr).1; simpa using this
      obtain ⟨r1, hr1⟩ := mlist_at l k h1
      exact (Array.getElem?_eq_some_iff.1 (hcs k r1 hr1)).1
    by_cases e : a = k
    · subst e
      rw [List.getElem?_set_self ha] at hr
      obtain rfl := Option.some.inj hr
      rw [Array.getElem?_setIfInBounds, if_pos rfl, if_pos hk]
      rfl
    · rw [List.getElem?_set_ne e] at hr
      rw [Array.getElem?_setIfInBounds, if_neg e]
      exact hcs k r hr
  · rcases List.mem_or_eq_of_mem_set hr with h1 | h1
    · exact (h.ok r h1).keep hki
    · subst h1
      exact hj.keep hki

/-- what is known while rows are joined -/
structure GS (w0 V : World) (b1 g : Nat) (x : Wd) (A : Option Addr) (l : List Rw) (W : World) : Prop where
  x0 : WAt w0 x
  bel : Below w0.heap.size w0 W
  box : Box W b1 x.cells 28
  rows : SR W w0.heap.size A l
  rws : Sv.Rws (sts l)
  so : (sts l).Pairwise fun a b => Sv.hd a < Sv.hd b
  f12 : (sts l).flatten.length ≤ 12
theorem GS.below {w0 V W W' : World} {b1 g : Nat} {x : Wd} {A : Option Addr} {l : List Rw} (h : GS w0 V b1 g x A l W) (hb : Below W.heap.size W W') : GS w0 V b1 g x A l W' :=
  ⟨h.x0, below_next h.bel hb, h.box.below hb, h.rows.below hb, h.rws, h.so, h.f12⟩
theorem GS.wx {w0 V W : World} {b1 g : Nat} {x : Wd} {A : Option Addr} {l : List Rw} (h : GS w0 V b1 g x A l W) : WX W b1 x := ⟨h.box, h.x0.below h.bel⟩
theorem GS.r12 {w0 V W : World} {b1 g : Nat} {x : Wd} {A : Option Addr} {l : List Rw} (h : GS w0 V b1 g x A l W) : ∀ r ∈ l, r.m ≤ 12 := fun r hr => by
  have h1 := Sv.flat_ge (l := sts l) (List.mem_map.2 ⟨r, hr, rfl⟩)
  have h2 := (h.rows.ok r hr).sl
  have h3 := h.f12
  omega
theorem GS.l12 {w0 V W : World} {b1 g : Nat} {x : Wd} {A : Option Addr} {l : List Rw} (h : GS w0 V b1 g x A l W) : l.length ≤ 12 := by
  have h1 : ∀ m : List (List Int), (∀ a ∈ m, a ≠ []) → m.length ≤ m.flatten.length := fun m => by
    induction m with
    | nil => intro _; simp
    | cons a m ih =>
      intro hm
      have h2 := ih fun b hb => hm b (by simp [hb])
      have h3 : 0 < a.length := List.length_pos_iff.2 (hm a (by simp))
      simp only [List.flatten_cons, List.length_append, List.length_cons]
      omega
  have h2 := h1 _ h.rws.ne
  rw [sts_len] at h2
  have := h.f12
  omega

/-- what a call that joins rows leaves -/
def JoinPost (w0 w : World) (x : Wd) (A : Option Addr) (c : Nat) (l0 : List Rw) (e : Ending) (w' : World) : Prop := ∃ (n : Nat) (l : List Rw), e = .returned (.slice A n c) ∧ Hid (l.length = n ∧ n ≤ 12 ∧ Below w0.heap.size w0 w' ∧ SR w' w0.heap.size A l ∧ Sv.Rws (sts l) ∧ Sv.J x.N x.D x.T x.os x.ts (sts l0) (sts l))
set_option maxHeartbeats 8000000 in
theorem joinAll_b (x : Wd) (w0 w : World) (A : Option Addr) (g n c : Nat) (l : List Rw) (hx : WAt w0 x) (hb : Below w0.heap.size w0 w) (hA : ∀ ad, A = some ad → ad = ⟨g, 0, none⟩) (hg : w0.heap.size ≤ g) (hg2 : g < w.heap.size) (hn : l.length = n) (hnc : n ≤ c) (hcm : c ≤ maxLen)
    (hr : SR w w0.heap.size A l) (hrw : Sv.Rws (sts l)) (hso : (sts l).Pairwise fun a b => Sv.hd a < Sv.hd b) (h12 : (sts l).flatten.length ≤ 12) :
    Calls Tryz.prog 27 #[.agg #[.int .i64 x.N, .slice x.dA x.dm x.dc, .slice x.tA x.tm x.tc, .slice x.A x.m x.c, .slice x.B x.k x.d], .slice A n c] w (JoinPost w0 w x A c l) := by
  have HX : Hid (GS w0 w w.heap.size g x A l (w.alloc (.cells #[.int .i64 x.N, .slice x.dA x.dm x.dc, .slice x.tA x.tm x.tc, .slice x.A x.m x.c, .slice x.B x.k x.d] 28))) := ⟨hx, hb.trans ((below_alloc _ _).mono hb.size), Box.new _ _ _, hr.below (below_alloc _ _), hrw, hso, h12⟩
  have HJ0 : Hid (∀ out, Sv.J x.N x.D x.T x.os x.ts (sts l) out → Sv.J x.N x.D x.T x.os x.ts (sts l) out) := fun _ h => h
  have HA := Lib.hid hA
  have HG := Lib.hid hg
  have HNE : Hid (g ≠ w.heap.size) := by unfold Hid; omega
  have HN := Lib.hid hn
  have HNC := Lib.hid hnc
  have HCM := Lib.hid hcm
  clear hx hb hA hg hg2 hr hrw hso h12 hnc hcm
  go_enter Tryz.func27, Tryz.ntmps27
  go_wp2_with fail
  generalize (w.alloc (.cells #[.int .i64 x.N, .slice x.dA x.dm x.dc, .slice x.tA x.tm x.tc, .slice x.A x.m x.c, .slice x.B x.k x.d] 28)) = V0 at *
  generalize hb1 : w.heap.size = b1 at HX HNE ⊢
  clear hb1
  obtain ⟨L0, hL0⟩ : ∃ L0, sts l = L0 := ⟨_, rfl⟩
  have HPO : Hid (∀ (e : Ending) (w' : World) (n : Nat) (l' : List Rw), e = .returned (.slice A n c) → l'.length = n → GS w0 w b1 g x A l' w' → Sv.J x.N x.D x.T x.os x.ts L0 (sts l') → JoinPost w0 w x A c l e w') := fun e w' n l' h1 h2 h3 h4 => by
    subst hL0
    exact ⟨n, l', h1, h2, by rw [← h2]; exact h3.l12, h3.bel, h3.rows, h3.rws, h4⟩
  have HJ : Hid (∀ out, Sv.J x.N x.D x.T x.os x.ts (sts l) out → Sv.J x.N x.D x.T x.os x.ts L0 out) := by subst hL0; exact HJ0
  clear HJ0 hL0
  go_loopg [1] n (fun gk s1 Wx => ∃ (n : Nat) (l : List Rw) (W : World), W = Wx ∧ n = gk ∧ s1 = .slice A n c ∧ Hid (l.length = n ∧ n ≤ c) ∧ Hid (GS w0 w b1 g x A l W) ∧ Hid (∀ out, Sv.J x.N x.D x.T x.os x.ts (sts l) out → Sv.J x.N x.D x.T x.os x.ts L0 out))
  case atStart => exact ⟨n, l, _, rfl, rfl, rfl, ⟨HN.out, HNC.out⟩, HX.out, HJ.out⟩
  case round =>
    clear HN HX HJ HNC
    obtain ⟨n, l, W, rfl, rfl, rfl, HN, HS, HJ⟩ := hrel
    have HC := Lib.hid (best_b x w0.heap.size A n c l W HS.out.wx.at_ HN.out.1 (by rw [← HN.out.1]; have := HS.out.l12; omega) HS.out.r12 HS.out.rows)
    have x0 := HS.out.wx.c0
    have x1 := HS.out.wx.c1
    have x2 := HS.out.wx.c2
    have x3 := HS.out.wx.c3
    have x4 := HS.out.wx.c4
    go_wp2_with fail
    clear x0 x1 x2 x3 x4
    with_reducible refine HC.out.mono ?_
    rintro e W1 ⟨a, b, m, j, rfl, h1⟩
    have HS1 := Lib.hid (HS.out.below h1.out.1)
    have HB := Lib.hid h1.out.2.1
    have HR := Lib.hid h1.out.2.2
    clear h1 HC HS
    by_cases hm : 0 < m
    · have d1 : decide (0 < m) = true := decide_eq_true hm
      have hat := HB.out.at_ hm
      have hne : a ≠ b := fun e => by
        subst e
        have := hat.1
        unfold Sv.gainAt at this
        rw [if_pos rfl] at this
        omega
      have hgp : 0 < Sv.gain x.N x.D x.T x.os x.ts (Sv.rowAt (sts l) a) (Sv.rowAt (sts l) b) := by
        have := hat.1
        unfold Sv.gainAt at this
        rw [if_neg hne] at this
        omega
      have hal : a < n := by
        by_cases h : a < n
        · exact h
        · rw [Sv.rowAt_none (i := a) (by rw [sts_len, HN.out.1]; omega), Sv.gain_none1] at hgp
          omega
      have hbl : b < n := by
        by_cases h : b < n
        · exact h
        · rw [Sv.rowAt_none (i := b) (by rw [sts_len, HN.out.1]; omega), Sv.gain_none2] at hgp
          omega
      obtain ⟨ra, hra⟩ := mlist_at l a (by rw [HN.out.1]; exact hal)
      obtain ⟨rb, hrb⟩ := mlist_at l b (by rw [HN.out.1]; exact hbl)
      obtain ⟨n', rfl⟩ : ∃ n', n = n' + 1 := ⟨n - 1, by omega⟩
      obtain ⟨g', cs, hA1, hbg, hbx, hcs⟩ := HS1.out.rows.block hra
      obtain rfl : g' = g := by have := HA.out _ hA1; injection this
      have HA1 := Lib.hid hA1
      have HRO := Lib.hid (HR.out hm)
      have HNX := Lib.hid (Sv.next_rws HS1.out.rws (sts_at hra) (sts_at hrb) hne)
      have HNS := Lib.hid (Sv.next_hds (b := b) (y := rb.st) (sts_at hra) (HS1.out.rws.ne _ (List.mem_map.2 ⟨ra, List.mem_of_getElem? hra, rfl⟩)) HS1.out.so)
      have HJ2 : Hid (∀ out, Sv.J x.N x.D x.T x.os x.ts (sts ((l.set a j).eraseIdx b)) out → Sv.J x.N x.D x.T x.os x.ts L0 out) := fun out h => by
        rw [sts_next HRO.out.2] at h
        have hB := HB.out
        rw [← HN.out.1, ← sts_len l] at hB
        exact HJ.out out (Sv.next_step HS1.out.so hB hm (sts_at hra) (sts_at hrb) h)
      have HAL : Hid (a < n' + 1 ∧ b < n' + 1) := ⟨hal, hbl⟩
      have HS2 := Lib.hid (HS1.out.below (below_alloc W1 (.cells #[.int .i64 (a : Int), .int .i64 (b : Int), .slice j.A j.m j.c] 101)))
      have HJO := Lib.hid (HRO.out.1.below (below_alloc W1 (.cells #[.int .i64 (a : Int), .int .i64 (b : Int), .slice j.A j.m j.c] 101)))
      have HJX : Hid (Box (W1.alloc (.cells #[.int .i64 (a : Int), .int .i64 (b : Int), .slice j.A j.m j.c] 101)) W1.heap.size #[.int .i64 (a : Int), .int .i64 (b : Int), .slice j.A j.m j.c] 101) := Box.new _ _ _
      have HGL : Hid (g' < W1.heap.size) := hbx.lt
      have u0 : (W1.alloc (.cells #[.int .i64 (a : Int), .int .i64 (b : Int), .slice j.A j.m j.c] 101)).cell? ⟨W1.heap.size, 0, none⟩ = some (.int .i64 (a : Int)) := HJX.out.cell 0 _ rfl
      have u1 : (W1.alloc (.cells #[.int .i64 (a : Int), .int .i64 (b : Int), .slice j.A j.m j.c] 101)).cell? ⟨W1.heap.size, 1, none⟩ = some (.int .i64 (b : Int)) := HJX.out.cell 1 _ rfl
      have u2 : (W1.alloc (.cells #[.int .i64 (a : Int), .int .i64 (b : Int), .slice j.A j.m j.c] 101)).cell? ⟨W1.heap.size, 2, none⟩ = some (.slice j.A j.m j.c) := HJX.out.cell 2 _ rfl
      have i0 : (a : Int) < ((n' + 1 : Nat) : Int) := by omega
      obtain ⟨g2, cs2, hA2, _, hbx2, hcs2⟩ := HS2.out.rows.block hra
      obtain rfl : g' = g2 := by have := HA.out _ hA2; injection this with this; exact this.symm
      have v0 : (W1.alloc (.cells #[.int .i64 (a : Int), .int .i64 (b : Int), .slice j.A j.m j.c] 101)).cell? ⟨g', a, none⟩ = some ra.val := hbx2.cell a _ (hcs2 a ra hra)
      have v1 : (W1.alloc (.cells #[.int .i64 (a : Int), .int .i64 (b : Int), .slice j.A j.m j.c] 101)).frozen? ⟨g', a, none⟩ = false := hbx2.fz a
      have HGN : Hid (g' ≠ W1.heap.size) := by unfold Hid; have := HGL.out; omega
      have HS3 := Lib.hid (HS2.out.rows)
      obtain rfl := HA1.out
      have HR3 := Lib.hid (sr_set HS3.out (by rw [HN.out.1]; exact hal) HJO.out)
      have hjx2 : Box ((W1.alloc (.cells #[.int .i64 (a : Int), .int .i64 (b : Int), .slice j.A j.m j.c] 101)).setCell ⟨g', a, none⟩ (.slice j.A j.m j.c)) W1.heap.size #[.int .i64 (a : Int), .int .i64 (b : Int), .slice j.A j.m j.c] 101 := (Go.Deep.blk_setCell_other _ _ _ _ (Ne.symm HGN.out)).trans HJX.out
      have u3 := hjx2.cell 1 _ rfl
      have wr : IntKind.i64.wrap ((b : Int) + 1) = (b : Int) + 1 := by rw [IntKind.wrap_i64]; have h1 := HS1.out.l12; rw [HN.out.1] at h1; omega
      have HB3 : Hid (Below w0.heap.size w0 ((W1.alloc (.cells #[.int .i64 (a : Int), .int .i64 (b : Int), .slice j.A j.m j.c] 101)).setCell ⟨g', a, none⟩ (.slice j.A j.m j.c))) := HS2.out.bel.setCell (p := ⟨g', a, none⟩) HG.out _
      have HX3 : Hid (Box ((W1.alloc (.cells #[.int .i64 (a : Int), .int .i64 (b : Int), .slice j.A j.m j.c] 101)).setCell ⟨g', a, none⟩ (.slice j.A j.m j.c)) b1 x.cells 28) := (Go.Deep.blk_setCell_other _ _ _ _ (Ne.symm HNE.out)).trans HS2.out.box
      have HD := Lib.hid (del_b g' (n' + 1) c b (l.set a j) _ w0.heap.size (by rw [List.length_set]; exact HN.out.1) (by have h1 := HS1.out.l12; rw [HN.out.1] at h1; omega) HN.out.2 HCM.out hbl HR3.out)
      have HRJ := Lib.hid HRO.out.2
      clear hat hne hgp hal hbl hra hrb hA1 hbg hbx hcs hA2 hbx2 hcs2 HJO HJX HS3 HS2 HR3 hjx2 HRO HR HB
      go_wp2_with fail
      clear u0 u1 u2 u3 v0 v1
      generalize (W1.alloc (.cells #[.int .i64 (a : Int), .int .i64 (b : Int), .slice j.A j.m j.c] 101)).setCell ⟨g', a, none⟩ (.slice j.A j.m j.c) = W3 at *
      with_reducible refine HD.out.mono ?_
      rintro e W4 ⟨rfl, h4⟩
      have HS4 : Hid (GS w0 w b1 g' x (some ⟨g', 0, none⟩) ((l.set a j).eraseIdx b) W4) := by
        refine ⟨HS1.out.x0, HB3.out.trans h4.out.2.1, (h4.out.2.2.2.1 b1 HX3.out.lt (Ne.symm HNE.out)).trans HX3.out, h4.out.1, ?_, ?_, ?_⟩
        · rw [sts_next HRJ.out]; exact HNX.out.1
        · rw [sts_next HRJ.out]; exact HNS.out
        · rw [sts_next HRJ.out, HNX.out.2.1]; exact HS1.out.f12
      have HN4 : Hid (((l.set a j).eraseIdx b).length = n' ∧ n' ≤ c) := by
        refine ⟨?_, by have := HN.out.2; omega⟩
        rw [List.length_eraseIdx, List.length_set, HN.out.1, if_pos HAL.out.2]
        rfl
      go_wp2
      go_roundg n'
      case measure => omega
      case rel => exact ⟨n', _, _, rfl, rfl, by first | rfl | go_num, HN4.out, HS4.out, HJ2.out⟩
    · have d1 : decide (0 < m) = false := decide_eq_false hm
      have HJD : Hid (Sv.J x.N x.D x.T x.os x.ts L0 (sts l)) := by
        refine HJ.out _ (.done (List.Perm.refl _) (Sv.none_of (a := a) (b := b) (m := m) ?_ hm))
        have hB := HB.out
        rw [← HN.out.1, ← sts_len l] at hB
        exact hB
      have HS2 := Lib.hid (HS1.out.below (below_alloc W1 (.cells #[.int .i64 (a : Int), .int .i64 (b : Int), .slice j.A j.m j.c] 101)))
      go_wp2
      go_ret
      exact HPO.out _ _ n l rfl HN.out.1 HS2.out HJD.out
end Go.Proofs.YtjidelfpmlnhkaaGreat
end

section
/-! Contracts of package savings: the rows of a world, joined and sorted. -/
namespace Go.Proofs.YtjidelfpmlnhkaaGreat
open Go.RowKit
set_option linter.unusedVariables false
set_option maxRecDepth 100000

/-- rows of one order each, ready to be joined -/
structure AlR (V1 U : World) (x : Wd) (A : Option Addr) (n c : Nat) (l : List Rw) : Prop where
  ex : ∃ (w0 : World) (g : Nat), WAt w0 x ∧ Below w0.heap.size w0 U ∧ Below V1.heap.size V1 w0 ∧ (∀ ad, A = some ad → ad = ⟨g, 0, none⟩) ∧ w0.heap.size ≤ g ∧ g < U.heap.size ∧ SR U w0.heap.size A l
  len : l.length = n
  nc : n ≤ c
  cm : c ≤ maxLen
  pm : (sts l).Perm (Sv.aloneL x.N x.D x.T x.os x.ts)
  so : (sts l).Pairwise fun a b => Sv.hd a < Sv.hd b
/-- rows, joined -/
structure JdR (V1 U : World) (x : Wd) (A : Option Addr) (n c : Nat) (l : List Rw) : Prop where
  len : l.length = n
  n12 : n ≤ 12
  rows : SR U V1.heap.size A l
  rws : Sv.Rws (sts l)
  jn : Sv.J x.N x.D x.T x.os x.ts (Sv.aloneL x.N x.D x.T x.os x.ts) (sts l)

/-- what a call that tells the rows leaves -/
def RowsPost (w : World) (x : Wd) (e : Ending) (w' : World) : Prop := ∃ (A : Option Addr) (n c : Nat) (l : List Rw), e = .returned (.tuple #[.slice A n c, .int .i64 (Rt.worldE x.N x.D x.T x.os x.ts)]) ∧ Hid (Below w.heap.size w w' ∧ l.length = n ∧ n ≤ 12 ∧ SR w' w.heap.size A l ∧ (Rt.worldE x.N x.D x.T x.os x.ts = 0 → Sv.IsRows x.N x.D x.T x.os x.ts (sts l)) ∧ (¬ Rt.worldE x.N x.D x.T x.os x.ts = 0 → l = []))
set_option maxHeartbeats 4000000 in
theorem rows_b (x : Wd) (w : World) (hx : WAt w x) :
    Calls Tryz.prog 11 #[.agg #[.int .i64 x.N, .slice x.dA x.dm x.dc, .slice x.tA x.tm x.tc, .slice x.A x.m x.c, .slice x.B x.k x.d]] w (RowsPost w x) := by
  have HX := Lib.hid (WX.new hx)
  have HB0 : Hid (Below w.heap.size w (w.alloc (.cells #[.int .i64 x.N, .slice x.dA x.dm x.dc, .slice x.tA x.tm x.tc, .slice x.A x.m x.c, .slice x.B x.k x.d] 28))) := below_alloc _ _
  clear hx
  obtain ⟨f, hf⟩ : ∃ f, Rt.worldE x.N x.D x.T x.os x.ts = f := ⟨_, rfl⟩
  have HF := Lib.hid hf
  have HPO : Hid (∀ (e : Ending) (w' : World) (A : Option Addr) (n c : Nat) (l : List Rw), e = .returned (.tuple #[.slice A n c, .int .i64 f]) → Below w.heap.size w w' → l.length = n → n ≤ 12 → SR w' w.heap.size A l → (f = 0 → Sv.IsRows x.N x.D x.T x.os x.ts (sts l)) → (¬ f = 0 → l = []) → RowsPost w x e w') := fun e w' A n c l h1 h2 h3 h4 h5 h6 h7 => by
    subst hf
    exact ⟨A, n, c, l, h1, h2, h3, h4, h5, h6, h7⟩
  go_enter Tryz.func11, Tryz.ntmps11
  have x0 := HX.out.c0
  have x1 := HX.out.c1
  have x2 := HX.out.c2
  have x3 := HX.out.c3
  have x4 := HX.out.c4
  go_wp2_with fail
  clear x0 x1 x2 x3 x4
  generalize (w.alloc (.cells #[.int .i64 x.N, .slice x.dA x.dm x.dc, .slice x.tA x.tm x.tc, .slice x.A x.m x.c, .slice x.B x.k x.d] 28)) = V at *
  generalize hb1 : w.heap.size = b1 at HX ⊢
  clear hb1
  have HC := Lib.hid (rworld_b x V f hf HX.out.at_)
  clear hf
  with_reducible refine HC.out.mono ?_
  rintro e V1 ⟨rfl, hv1⟩
  have HX1 := Lib.hid (HX.out.below hv1.out)
  have HB1 := Lib.hid (below_next HB0.out hv1.out)
  clear HC HX HB0 hv1
  by_cases hf0 : f = 0
  · subst hf0
    have e1 : ((0 : Int) != (0 : Int)) = false := by decide
    have HCE : Hid (∀ U, Below V1.heap.size V1 U → (U.cell? ⟨b1, 0, none⟩ = some (.int .i64 x.N) ∧ U.cell? ⟨b1, 1, none⟩ = some (.slice x.dA x.dm x.dc) ∧ U.cell? ⟨b1, 2, none⟩ = some (.slice x.tA x.tm x.tc) ∧ U.cell? ⟨b1, 3, none⟩ = some (.slice x.A x.m x.c) ∧ U.cell? ⟨b1, 4, none⟩ = some (.slice x.B x.k x.d) ∧ Below V1.heap.size V1 U)) := fun U hU => ⟨(HX1.out.below hU).c0, (HX1.out.below hU).c1, (HX1.out.below hU).c2, (HX1.out.below hU).c3, (HX1.out.below hU).c4, hU⟩
    have HC1 : Hid (∀ U, (U.cell? ⟨b1, 0, none⟩ = some (.int .i64 x.N) ∧ U.cell? ⟨b1, 1, none⟩ = some (.slice x.dA x.dm x.dc) ∧ U.cell? ⟨b1, 2, none⟩ = some (.slice x.tA x.tm x.tc) ∧ U.cell? ⟨b1, 3, none⟩ = some (.slice x.A x.m x.c) ∧ U.cell? ⟨b1, 4, none⟩ = some (.slice x.B x.k x.d) ∧ Below V1.heap.size V1 U) → Calls Tryz.prog 28 #[.agg #[.int .i64 x.N, .slice x.dA x.dm x.dc, .slice x.tA x.tm x.tc, .slice x.A x.m x.c, .slice x.B x.k x.d]] U fun e U => ∃ (A : Option Addr) (n c : Nat) (l : List Rw), e = .returned (.slice A n c) ∧ Hid (AlR V1 U x A n c l) ∧ (U.cell? ⟨b1, 0, none⟩ = some (.int .i64 x.N) ∧ U.cell? ⟨b1, 1, none⟩ = some (.slice x.dA x.dm x.dc) ∧ U.cell? ⟨b1, 2, none⟩ = some (.slice x.tA x.tm x.tc) ∧ U.cell? ⟨b1, 3, none⟩ = some (.slice x.A x.m x.c) ∧ U.cell? ⟨b1, 4, none⟩ = some (.slice x.B x.k x.d) ∧ Below V1.heap.size V1 U)) := by
      rintro U ⟨_, _, _, _, _, h⟩
      refine (alone_b x U (HX1.out.below h).at_ HF.out).mono ?_
      rintro e U' ⟨A, n, c, l, rfl, h2⟩
      obtain ⟨g1, g2, g3, g4, g5, g6, g7, g8, g9⟩ := h2.out
      refine ⟨A, n, c, l, rfl, ⟨?_, g4, g5, g6, g8, g9⟩, HCE.out _ (below_next h g1)⟩
      rcases g7 with rfl | ⟨g, rfl, q1, q2⟩
      · exact ⟨U, U.heap.size, (HX1.out.below h).at_, g1, h, fun ad e => (by cases e), Nat.le_refl _, g2, g3⟩
      · exact ⟨U, g, (HX1.out.below h).at_, g1, h, fun ad e => (Option.some.inj e).symm, q1, q2, g3⟩
    have HC2 : Hid (∀ (U : World) (A : Option Addr) (n c : Nat) (l : List Rw), (U.cell? ⟨b1, 0, none⟩ = some (.int .i64 x.N) ∧ U.cell? ⟨b1, 1, none⟩ = some (.slice x.dA x.dm x.dc) ∧ U.cell? ⟨b1, 2, none⟩ = some (.slice x.tA x.tm x.tc) ∧ U.cell? ⟨b1, 3, none⟩ = some (.slice x.A x.m x.c) ∧ U.cell? ⟨b1, 4, none⟩ = some (.slice x.B x.k x.d) ∧ Below V1.heap.size V1 U) → Hid (AlR V1 U x A n c l) → Calls Tryz.prog 27 #[.agg #[.int .i64 x.N, .slice x.dA x.dm x.dc, .slice x.tA x.tm x.tc, .slice x.A x.m x.c, .slice x.B x.k x.d], .slice A n c] U fun e U => ∃ (n' : Nat) (l' : List Rw), e = .returned (.slice A n' c) ∧ Hid (JdR V1 U x A n' c l') ∧ (U.cell? ⟨b1, 0, none⟩ = some (.int .i64 x.N) ∧ U.cell? ⟨b1, 1, none⟩ = some (.slice x.dA x.dm x.dc) ∧ U.cell? ⟨b1, 2, none⟩ = some (.slice x.tA x.tm x.tc) ∧ U.cell? ⟨b1, 3, none⟩ = some (.slice x.A x.m x.c) ∧ U.cell? ⟨b1, 4, none⟩ = some (.slice x.B x.k x.d) ∧ Below V1.heap.size V1 U)) := by
      rintro U A n c l ⟨_, _, _, _, _, h⟩ hR
      obtain ⟨w0, g, q1, q2, q3, q4, q5, q6, q7⟩ := hR.out.ex
      have hrw := (Sv.alone_rws (N := x.N) (D := x.D) (T := x.T) (ts := x.ts) (Rt.ok_of HF.out).ou).perm hR.out.pm.symm
      refine (joinAll_b x w0 U A g n c l q1 q2 q4 q5 q6 hR.out.len hR.out.nc hR.out.cm q7 hrw hR.out.so (by rw [hR.out.pm.flatten.length_eq]; exact Sv.alone_len HF.out)).mono ?_
      rintro e U' ⟨n', l', rfl, h2⟩
      obtain ⟨g1, g2, g3, g4, g5, g6⟩ := h2.out
      exact ⟨n', l', rfl, ⟨g1, g2, g4.mono q3.size, g5, g6.perm hR.out.pm⟩, HCE.out _ (below_next q3 g3)⟩
    obtain ⟨y0, y1, y2, y3, y4, hB0⟩ := HCE.out V1 (Below.refl _ _)
    have hB := hB0.drew
    clear HCE
    go_wp2
    go_region_held3 (fun U : World => (U.cell? ⟨b1, 0, none⟩ = some (.int .i64 x.N) ∧ U.cell? ⟨b1, 1, none⟩ = some (.slice x.dA x.dm x.dc) ∧ U.cell? ⟨b1, 2, none⟩ = some (.slice x.tA x.tm x.tc) ∧ U.cell? ⟨b1, 3, none⟩ = some (.slice x.A x.m x.c) ∧ U.cell? ⟨b1, 4, none⟩ = some (.slice x.B x.k x.d) ∧ Below V1.heap.size V1 U)) (first | exact ⟨y0, y1, y2, y3, y4, hB⟩ | exact ⟨k0, k1, k2, k3, k4, kb⟩ | assumption)
      (first
        | (go_at_call 28; ((with_reducible refine (HC1.out _ (by assumption)).mono ?_)); rintro e w7 ⟨A, n, c, l, rfl, HAL, k0, k1, k2, k3, k4, kb⟩)
        | (go_at_call 27; ((with_reducible refine (HC2.out _ _ _ _ _ (by assumption) HAL).mono ?_)); rintro e w8 ⟨n', l', rfl, HJD, k0, k1, k2, k3, k4, kb⟩))
    all_goals
      rename World => W2
      have HB2 := Lib.hid (below_next HB1.out kb)
      have HV := Lib.hid kb
      clear k0 k1 k2 k3 k4 kb y0 y1 y2 y3 y4 hB0 hB HC1 HC2 HX1 HAL
      have HC := Lib.hid (sort_rows 30 enters_cmp2 cf2 swo2 (fun r => 0 < r.m) cmps2 A n' c l' W2 V1.heap.size HV.out.size HJD.out.len (by have := HJD.out.n12; omega) HJD.out.rows (fun r hr => by
        have h1 := HJD.out.rws.ne r.st (List.mem_map.2 ⟨r, hr, rfl⟩)
        have h2 := (HJD.out.rows.ok r hr).sl
        have h3 := List.length_pos_iff.2 h1
        omega))
      go_wp2_with fail
      with_reducible refine HC.out.mono ?_
      rintro e W3 ⟨rfl, h5⟩
      go_wp2
      go_ret2
      obtain ⟨l2, hp, hs, hr, hb, _⟩ := h5.out
      refine HPO.out _ _ A n' c l2 rfl (HB1.out.trans ((HV.out.trans hb).mono HB1.out.size)) (by rw [hp.length_eq]; exact HJD.out.len) HJD.out.n12 (hr.mono HB1.out.size) (fun _ => ⟨⟨sts l', HJD.out.jn, hp.map _⟩, ?_⟩) (fun h => absurd trivial h)
      unfold sts
      rw [List.pairwise_map]
      refine hs.imp ?_
      intro a b h
      have := cf2_iff b.st a.st
      unfold Sv.le2
      omega
  · have e1 : (f != (0 : Int)) = true := bne_iff_ne.2 hf0
    go_wp2
    go_ret2
    exact HPO.out _ _ none 0 0 [] rfl HB1.out rfl (by omega) (SR.nil _ _ _) (fun h => absurd h hf0) (fun _ => rfl)
end Go.Proofs.YtjidelfpmlnhkaaGreat
end
