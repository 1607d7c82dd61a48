/- Lists of numbers, plans and rows of rows are compared. -/
import Derived.Test.YtjidelfpmlnhkaaGreatSavI
namespace Go.Proofs.YtjidelfpmlnhkaaGreat
open Go.RowKit
set_option linter.unusedVariables false
set_option maxRecDepth 100000

theorem drewN_below (w : World) (q : Nat) : Below w.heap.size w (w.drewN q) := ⟨rfl, rfl, rfl, Nat.le_refl _, fun _ _ => rfl⟩
set_option maxHeartbeats 1000000 in
theorem psame_b (A B : Option Addr) (n c m d : Nat) (a b : List Int) (w : World) (r : Bool) (hr : decide (a = b) = r) (hn : a.length = n) (hm : b.length = m) (hn2 : n ≤ 100000) (hm2 : m ≤ 100000) (ha : IntsAt w A a) (hb : IntsAt w B b) :
    Calls Tryz.prog 42 #[.slice A n c, .slice B m d] w fun e w' => e = .returned (.bool r) ∧ ∃ q, w' = w.drewN q := by
  have HN := Lib.hid hn
  have HM := Lib.hid hm
  have HA := Lib.hid ha
  have HB := Lib.hid hb
  by_cases hnm : n = m
  · have HR : Hid (∀ k : Nat, (∀ i : Nat, i < k → a[i]? = b[i]?) → n ≤ k → r = true) := fun k hk hnk => by
      rw [← hr, decide_eq_true_iff]
      apply List.ext_getElem?
      intro i
      by_cases hi : i < n
      · exact hk i (by omega)
      · rw [List.getElem?_eq_none (by omega), List.getElem?_eq_none (by omega)]
    have HF : Hid (∀ k : Nat, a[k]? ≠ b[k]? → r = false) := fun k hk => by
      rw [← hr, decide_eq_false_iff_not]
      exact fun e => hk (by rw [e])
    subst hnm
    have d1 : ((n : Int) != (n : Int)) = false := by simp
    clear ha hb hr hn hm
    go_enter Tryz.func42, Tryz.ntmps42
    go_wp2
    go_loopg [4, 5] n (fun gk s4 s5 W => ∃ (k q : Nat), k + gk = n ∧ s4 = .bool false ∧ s5 = .int .i64 k ∧ W = w.drewN q ∧ Hid (∀ i : Nat, i < k → a[i]? = b[i]?))
    case atStart => exact ⟨0, 0, by omega, rfl, rfl, rfl, fun i hi => by omega⟩
    case round =>
      obtain ⟨k, q, hkg, rfl, rfl, rfl, HK⟩ := hrel
      by_cases hlt : k < n
      · obtain ⟨gk, rfl⟩ : ∃ j, gk = j + 1 := ⟨gk - 1, by omega⟩
        obtain ⟨x, hx⟩ := mlist_at a k (by rw [HN.out]; exact hlt)
        obtain ⟨y, hy⟩ := mlist_at b k (by rw [HM.out]; exact hlt)
        obtain ⟨ad, rfl, hc0⟩ := HA.out k x hx
        obtain ⟨bd, rfl, hd0⟩ := HB.out k y hy
        have hc1 : (w.drewN q).cell? (ad.add k) = some (.int .i64 x) := by simpa using hc0
        have hd1 : (w.drewN q).cell? (bd.add k) = some (.int .i64 y) := by simpa using hd0
        have i1 : (0 : Int) ≤ (k : Int) := by omega
        have i2 : (k : Int) < (n : Int) := by omega
        have HW : Hid (∀ m, (w.drewN q).drewN m = w.drewN (q + m)) := fun m => by simp
        by_cases hxy : x = y
        · have heq : (x != y) = false := by rw [hxy]; simp
          have HK2 : Hid (∀ i : Nat, i < k + 1 → a[i]? = b[i]?) := fun i hi => by
            by_cases h : i < k
            · exact HK.out i h
            · obtain rfl : i = k := by omega
              rw [hx, hy, hxy]
          clear hx hy hxy hc0 hd0
          generalize w.drewN q = W at *
          go_wp2
          go_quiet (fail)
          go_wp2
          go_roundg gk
          case measure => omega
          case rel => exact ⟨k + 1, _, by omega, rfl, by first | rfl | go_num, HW.out _, HK2.out⟩
        · have heq : (x != y) = true := bne_iff_ne.2 hxy
          have HF2 := Lib.hid (HF.out k (by rw [hx, hy]; exact fun e => hxy (Option.some.inj e)))
          clear hx hy hxy hc0 hd0
          generalize w.drewN q = W at *
          go_wp2
          go_quiet (fail)
          go_wp2
          go_ret
          exact ⟨by rw [HF2.out]; rfl, _, HW.out _⟩
      · have HR2 := Lib.hid (HR.out k HK.out (by omega))
        have hk : k = n := by omega
        subst hk
        go_wp2
        go_ret
        exact ⟨by rw [HR2.out]; rfl, _, rfl⟩
  · have HF : Hid (r = false) := by rw [← hr]; exact decide_eq_false (fun e => hnm (by rw [← hn, ← hm, e]))
    have d1 : ((n : Int) != (m : Int)) = true := bne_iff_ne.2 (by omega)
    clear hnm ha hb hr hn hm
    go_enter Tryz.func42, Tryz.ntmps42
    go_wp2
    go_ret
    exact ⟨by rw [HF.out]; rfl, 0, rfl⟩

/-- the boxes of two plans -/
structure PP (V : World) (b1 b2 : Nat) (p q : Pd) : Prop where
  p : PX V b1 p
  q : PX V b2 q
theorem PP.below {V V' : World} {b1 b2 : Nat} {p q : Pd} (h : PP V b1 b2 p q) (hb : Below V.heap.size V V') : PP V' b1 b2 p q := ⟨h.p.below hb, h.q.below hb⟩
theorem PP.new {w : World} {p q : Pd} (hp : PAt w p) (hq : PAt w q) : PP ((w.alloc (.cells #[.slice p.rA p.rm p.rc, .slice p.uA p.um p.uc] 40)).alloc (.cells #[.slice q.rA q.rm q.rc, .slice q.uA q.um q.uc] 40)) w.heap.size (w.heap.size + 1) p q := by
  refine ⟨(PX.new hp).below (below_alloc _ _), ?_⟩
  rw [size_one w (.cells #[.slice p.rA p.rm p.rc, .slice p.uA p.um p.uc] 40)]
  exact PX.new (hq.below (below_alloc _ _))

set_option maxHeartbeats 4000000 in
theorem pequal_b (p q : Pd) (w : World) (hp : PAt w p) (hq : PAt w q) (hro : ros p.rs = ros q.rs) (hus : p.us = q.us) :
    Calls Tryz.prog 16 #[.agg #[.slice p.rA p.rm p.rc, .slice p.uA p.um p.uc], .agg #[.slice q.rA q.rm q.rc, .slice q.uA q.um q.uc]] w fun e w' => e = .returned (.bool true) ∧ Hid (Below w.heap.size w w') := by
  have HX := Lib.hid (PP.new hp hq)
  have HB0 : Hid (Below w.heap.size w ((w.alloc (.cells #[.slice p.rA p.rm p.rc, .slice p.uA p.um p.uc] 40)).alloc (.cells #[.slice q.rA q.rm q.rc, .slice q.uA q.um q.uc] 40))) := below_more (below_alloc _ _) _
  have HRO := Lib.hid hro
  have HUS := Lib.hid hus
  have hrm := hp.r2
  have hqm := hq.r2
  have HMM : Hid (p.rm = q.rm) := by unfold Hid; rw [← hp.rl, ← hq.rl, ← ros_len, ← ros_len, hro]
  have d1 : ((p.rm : Int) != (q.rm : Int)) = false := by rw [HMM.out]; simp
  clear hp hq hro hus
  go_enter Tryz.func16, Tryz.ntmps16
  have x0 := HX.out.p.c0
  have x1 := HX.out.p.c1
  have y0 := HX.out.q.c0
  have y1 := HX.out.q.c1
  go_wp2_with fail
  generalize ((w.alloc (.cells #[.slice p.rA p.rm p.rc, .slice p.uA p.um p.uc] 40)).alloc (.cells #[.slice q.rA q.rm q.rc, .slice q.uA q.um q.uc] 40)) = V at *
  generalize w.heap.size + 1 = b2 at *
  generalize hb1 : w.heap.size = b1 at HX x0 x1 ⊢
  have HB1 := Lib.hid hb1
  clear hb1 x0 x1 y0 y1
  have HC := Lib.hid (psame_b p.uA q.uA p.um p.uc q.um q.uc p.us q.us V true (decide_eq_true HUS.out) HX.out.p.at_.ul HX.out.q.at_.ul (by have := HX.out.p.at_.u2; omega) (by have := HX.out.q.at_.u2; omega) HX.out.p.at_.us HX.out.q.at_.us)
  with_reducible refine HC.out.mono ?_
  rintro e V1 ⟨rfl, q1, rfl⟩
  have HX1 := Lib.hid (HX.out.below (drewN_below V q1))
  have HBV := Lib.hid (below_next HB0.out (drewN_below V q1))
  clear HX HC HB0
  generalize V.drewN q1 = V1 at *
  go_wp2_with fail
  go_loopg [4, 5] p.rm (fun gk s4 s5 W => ∃ (k m : Nat), k + gk = p.rm ∧ s4 = .bool false ∧ s5 = .int .i64 k ∧ W = V1.drewN m)
  case atStart => exact ⟨0, 0, by omega, rfl, rfl, rfl⟩
  case round =>
    obtain ⟨k, m, hkg, rfl, rfl, rfl⟩ := hrel
    have HW : Hid (∀ j, (V1.drewN m).drewN j = V1.drewN (m + j)) := fun j => by simp
    have HXW := Lib.hid (HX1.out.below (drewN_below V1 m))
    have x0 := HXW.out.p.c0
    have y0 := HXW.out.q.c0
    by_cases hlt : k < p.rm
    · obtain ⟨gk, rfl⟩ : ∃ j, gk = j + 1 := ⟨gk - 1, by omega⟩
      obtain ⟨r, hr⟩ := mlist_at p.rs k (by rw [HXW.out.p.at_.rl]; exact hlt)
      obtain ⟨s, hs⟩ := mlist_at q.rs k (by rw [HXW.out.q.at_.rl, ← HMM.out]; exact hlt)
      have hrs : r.ro = s.ro := by
        have h1 := ros_at hr
        rw [HRO.out, ros_at hs] at h1
        exact (Option.some.inj h1).symm
      obtain ⟨ad, hrA, hc, hra⟩ := HXW.out.p.at_.at_ hr
      obtain ⟨bd, hqA, hd, hqa⟩ := HXW.out.q.at_.at_ hs
      obtain ⟨c0, c1⟩ := hc
      obtain ⟨e0, e1⟩ := hd
      have htr : r.tr = s.tr := by injection hrs
      have hst : r.st = s.st := by injection hrs
      have i1 : (0 : Int) ≤ (k : Int) := by omega
      have i2 : (k : Int) < (p.rm : Int) := by omega
      have i3 : (k : Int) < (q.rm : Int) := by rw [← HMM.out]; omega
      have d2 : (r.tr != s.tr) = false := by rw [htr]; simp
      have HS : Hid (∀ j, Calls Tryz.prog 42 #[.slice r.sA r.sm r.sc, .slice s.sA s.sm s.sc] ((V1.drewN m).drewN j) fun e w' => e = .returned (.bool true) ∧ ∃ j, w' = (V1.drewN m).drewN j) := fun j => by
        refine (psame_b r.sA s.sA r.sm r.sc s.sm s.sc r.st s.st ((V1.drewN m).drewN j) true (decide_eq_true hst) hra.sl hqa.sl (by have := hra.s2; omega) (by have := hqa.s2; omega) (hra.st.below (drewN_below _ _)) (hqa.st.below (drewN_below _ _))).mono fun e w' ⟨e1, j2, e2⟩ => ⟨e1, j + j2, by rw [e2]; simp [Nat.add_assoc]⟩
      have HRA := Lib.hid hrA
      have HQA := Lib.hid hqA
      clear hr hs hrs hrA hqA hra hqa htr hst HXW
      generalize p.rA = rA at *
      generalize q.rA = qA at *
      obtain rfl := HRA.out
      obtain rfl := HQA.out
      generalize V1.drewN m = W at *
      go_wp2
      go_quiet ((go_at_call 42; exact HS.out _))
      go_wp2
      go_roundg gk
      case measure => omega
      case rel => exact ⟨k + 1, _, by omega, rfl, by first | rfl | go_num, HW.out _⟩
    · have hk : k = p.rm := by omega
      have HBE := Lib.hid (below_next HBV.out (drewN_below V1 m))
      clear HXW HW
      generalize V1.drewN m = W at *
      go_wp2
      go_ret
      exact ⟨rfl, HBE.out⟩

/-- rows as they lie, whoever made them -/
def RowsAt (w : World) (A : Option Addr) (l : List Rw) : Prop := ∀ (k : Nat) (r : Rw), l[k]? = some r → ∃ ad, A = some ad ∧ w.cell? (ad.add k) = some (.slice r.A r.m r.c) ∧ r.st.length = r.m ∧ r.m ≤ 1000 ∧ IntsAt w r.A r.st
theorem RowsAt.below {w w' : World} {A : Option Addr} {l : List Rw} (h : RowsAt w A l) (hb : Below w.heap.size w w') : RowsAt w' A l := fun k r hr => by
  obtain ⟨ad, e, h1, h2, h3, h4⟩ := h k r hr
  exact ⟨ad, e, by rw [hb.cell (p := ad.add k) (lt_of_cell h1)]; exact h1, h2, h3, h4.below hb⟩
theorem SR.at' {W : World} {b : Nat} {A : Option Addr} {l : List Rw} (h : SR W b A l) : RowsAt W A l := fun k r hr => by
  obtain ⟨ad, e, h1, h2⟩ := h.cell hr
  exact ⟨ad, e, h1, h2.sl, by have := h2.s2; omega, h2.st⟩

set_option maxHeartbeats 2000000 in
theorem rowed_b (A B : Option Addr) (n c m d : Nat) (a b : List Rw) (w : World) (hn : a.length = n) (hm : b.length = m) (hn2 : n ≤ 100000) (ha : RowsAt w A a) (hb : RowsAt w B b) (heq : sts a = sts b) :
    Calls Tryz.prog 15 #[.slice A n c, .slice B m d] w fun e w' => e = .returned (.bool true) ∧ ∃ q, w' = w.drewN q := by
  have hnm : n = m := by rw [← hn, ← hm, ← sts_len, ← sts_len, heq]
  subst hnm
  have HN := Lib.hid hn
  have HM := Lib.hid hm
  have HA := Lib.hid ha
  have HB := Lib.hid hb
  have HE := Lib.hid heq
  have d1 : ((n : Int) != (n : Int)) = false := by simp
  clear ha hb hn hm heq
  go_enter Tryz.func15, Tryz.ntmps15
  go_wp2
  go_loopg [4, 5] n (fun gk s4 s5 W => ∃ (k q : Nat), k + gk = n ∧ s4 = .bool false ∧ s5 = .int .i64 k ∧ W = w.drewN q)
  case atStart => exact ⟨0, 0, by omega, rfl, rfl, rfl⟩
  case round =>
    obtain ⟨k, q, hkg, rfl, rfl, rfl⟩ := hrel
    have HW : Hid (∀ m, (w.drewN q).drewN m = w.drewN (q + m)) := fun m => by simp
    by_cases hlt : k < n
    · obtain ⟨gk, rfl⟩ : ∃ j, gk = j + 1 := ⟨gk - 1, by omega⟩
      obtain ⟨r, hr⟩ := mlist_at a k (by rw [HN.out]; exact hlt)
      obtain ⟨s, hs⟩ := mlist_at b k (by rw [HM.out]; exact hlt)
      obtain ⟨ad, rfl, hc0, r1, r2, r3⟩ := HA.out k r hr
      obtain ⟨bd, rfl, hd0, s1, s2, s3⟩ := HB.out k s hs
      have hrs : r.st = s.st := by
        have h1 := sts_at hr
        rw [HE.out, sts_at hs] at h1
        exact (Option.some.inj h1).symm
      have hc1 : (w.drewN q).cell? (ad.add k) = some (.slice r.A r.m r.c) := by simpa using hc0
      have hd1 : (w.drewN q).cell? (bd.add k) = some (.slice s.A s.m s.c) := by simpa using hd0
      have i1 : (0 : Int) ≤ (k : Int) := by omega
      have i2 : (k : Int) < (n : Int) := by omega
      have HS : Hid (∀ j, Calls Tryz.prog 42 #[.slice r.A r.m r.c, .slice s.A s.m s.c] ((w.drewN q).drewN j) fun e w' => e = .returned (.bool true) ∧ ∃ j, w' = (w.drewN q).drewN j) := fun j => by
        refine (psame_b r.A s.A r.m r.c s.m s.c r.st s.st ((w.drewN q).drewN j) true (decide_eq_true hrs) r1 s1 (by omega) (by omega) ((r3.below (drewN_below _ _)).below (drewN_below _ _)) ((s3.below (drewN_below _ _)).below (drewN_below _ _))).mono fun e w' ⟨e1, j2, e2⟩ => ⟨e1, j + j2, by rw [e2]; simp [Nat.add_assoc]⟩
      clear hr hs hrs hc0 hd0 r1 r2 r3 s1 s2 s3
      generalize w.drewN q = W at *
      go_wp2
      go_quiet ((go_at_call 42; exact HS.out _))
      go_wp2
      go_roundg gk
      case measure => omega
      case rel => exact ⟨k + 1, _, by omega, rfl, by first | rfl | go_num, HW.out _⟩
    · go_wp2
      go_ret
      exact ⟨rfl, q, rfl⟩
end Go.Proofs.YtjidelfpmlnhkaaGreat
