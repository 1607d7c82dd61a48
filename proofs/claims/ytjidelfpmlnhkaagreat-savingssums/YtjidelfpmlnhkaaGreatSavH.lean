/- Contracts of package savings: the rows of a world, joined and sorted. -/
import Derived.Test.YtjidelfpmlnhkaaGreatSavF
import Derived.Test.YtjidelfpmlnhkaaGreatSavG
namespace Go.Proofs.YtjidelfpmlnhkaaGreat
open Go.RowKit
set_option linter.unusedVariables false
set_option maxRecDepth 100000

/-- rows of one order each, ready to be joined -/
structure AlR (V1 U : World) (x : Wd) (A : Option Addr) (n c : Nat) (l : List Rw) : Prop where
  ex : ∃ (w0 : World) (g : Nat), WAt w0 x ∧ Below w0.heap.size w0 U ∧ Below V1.heap.size V1 w0 ∧ (∀ ad, A = some ad → ad = ⟨g, 0, none⟩) ∧ w0.heap.size ≤ g ∧ g < U.heap.size ∧ SR U w0.heap.size A l
  len : l.length = n
  nc : n ≤ c
  cm : c ≤ maxLen
  pm : (sts l).Perm (Sv.aloneL x.N x.D x.T x.os x.ts)
  so : (sts l).Pairwise fun a b => Sv.hd a < Sv.hd b
/-- rows, joined -/
structure JdR (V1 U : World) (x : Wd) (A : Option Addr) (n c : Nat) (l : List Rw) : Prop where
  len : l.length = n
  n12 : n ≤ 12
  rows : SR U V1.heap.size A l
  rws : Sv.Rws (sts l)
  jn : Sv.J x.N x.D x.T x.os x.ts (Sv.aloneL x.N x.D x.T x.os x.ts) (sts l)

/-- what a call that tells the rows leaves -/
def RowsPost (w : World) (x : Wd) (e : Ending) (w' : World) : Prop := ∃ (A : Option Addr) (n c : Nat) (l : List Rw), e = .returned (.tuple #[.slice A n c, .int .i64 (Rt.worldE x.N x.D x.T x.os x.ts)]) ∧ Hid (Below w.heap.size w w' ∧ l.length = n ∧ n ≤ 12 ∧ SR w' w.heap.size A l ∧ (Rt.worldE x.N x.D x.T x.os x.ts = 0 → Sv.IsRows x.N x.D x.T x.os x.ts (sts l)) ∧ (¬ Rt.worldE x.N x.D x.T x.os x.ts = 0 → l = []))
set_option maxHeartbeats 4000000 in
theorem rows_b (x : Wd) (w : World) (hx : WAt w x) :
    Calls Tryz.prog 11 #[.agg #[.int .i64 x.N, .slice x.dA x.dm x.dc, .slice x.tA x.tm x.tc, .slice x.A x.m x.c, .slice x.B x.k x.d]] w (RowsPost w x) := by
  have HX := Lib.hid (WX.new hx)
  have HB0 : Hid (Below w.heap.size w (w.alloc (.cells #[.int .i64 x.N, .slice x.dA x.dm x.dc, .slice x.tA x.tm x.tc, .slice x.A x.m x.c, .slice x.B x.k x.d] 28))) := below_alloc _ _
  clear hx
  obtain ⟨f, hf⟩ : ∃ f, Rt.worldE x.N x.D x.T x.os x.ts = f := ⟨_, rfl⟩
  have HF := Lib.hid hf
  have HPO : Hid (∀ (e : Ending) (w' : World) (A : Option Addr) (n c : Nat) (l : List Rw), e = .returned (.tuple #[.slice A n c, .int .i64 f]) → Below w.heap.size w w' → l.length = n → n ≤ 12 → SR w' w.heap.size A l → (f = 0 → Sv.IsRows x.N x.D x.T x.os x.ts (sts l)) → (¬ f = 0 → l = []) → RowsPost w x e w') := fun e w' A n c l h1 h2 h3 h4 h5 h6 h7 => by
    subst hf
    exact ⟨A, n, c, l, h1, h2, h3, h4, h5, h6, h7⟩
  go_enter Tryz.func11, Tryz.ntmps11
  have x0 := HX.out.c0
  have x1 := HX.out.c1
  have x2 := HX.out.c2
  have x3 := HX.out.c3
  have x4 := HX.out.c4
  go_wp2_with fail
  clear x0 x1 x2 x3 x4
  generalize (w.alloc (.cells #[.int .i64 x.N, .slice x.dA x.dm x.dc, .slice x.tA x.tm x.tc, .slice x.A x.m x.c, .slice x.B x.k x.d] 28)) = V at *
  generalize hb1 : w.heap.size = b1 at HX ⊢
  clear hb1
  have HC := Lib.hid (rworld_b x V f hf HX.out.at_)
  clear hf
  with_reducible refine HC.out.mono ?_
  rintro e V1 ⟨rfl, hv1⟩
  have HX1 := Lib.hid (HX.out.below hv1.out)
  have HB1 := Lib.hid (below_next HB0.out hv1.out)
  clear HC HX HB0 hv1
  by_cases hf0 : f = 0
  · subst hf0
    have e1 : ((0 : Int) != (0 : Int)) = false := by decide
    have HCE : Hid (∀ U, Below V1.heap.size V1 U → (U.cell? ⟨b1, 0, none⟩ = some (.int .i64 x.N) ∧ U.cell? ⟨b1, 1, none⟩ = some (.slice x.dA x.dm x.dc) ∧ U.cell? ⟨b1, 2, none⟩ = some (.slice x.tA x.tm x.tc) ∧ U.cell? ⟨b1, 3, none⟩ = some (.slice x.A x.m x.c) ∧ U.cell? ⟨b1, 4, none⟩ = some (.slice x.B x.k x.d) ∧ Below V1.heap.size V1 U)) := fun U hU => ⟨(HX1.out.below hU).c0, (HX1.out.below hU).c1, (HX1.out.below hU).c2, (HX1.out.below hU).c3, (HX1.out.below hU).c4, hU⟩
    have HC1 : Hid (∀ U, (U.cell? ⟨b1, 0, none⟩ = some (.int .i64 x.N) ∧ U.cell? ⟨b1, 1, none⟩ = some (.slice x.dA x.dm x.dc) ∧ U.cell? ⟨b1, 2, none⟩ = some (.slice x.tA x.tm x.tc) ∧ U.cell? ⟨b1, 3, none⟩ = some (.slice x.A x.m x.c) ∧ U.cell? ⟨b1, 4, none⟩ = some (.slice x.B x.k x.d) ∧ Below V1.heap.size V1 U) → Calls Tryz.prog 28 #[.agg #[.int .i64 x.N, .slice x.dA x.dm x.dc, .slice x.tA x.tm x.tc, .slice x.A x.m x.c, .slice x.B x.k x.d]] U fun e U => ∃ (A : Option Addr) (n c : Nat) (l : List Rw), e = .returned (.slice A n c) ∧ Hid (AlR V1 U x A n c l) ∧ (U.cell? ⟨b1, 0, none⟩ = some (.int .i64 x.N) ∧ U.cell? ⟨b1, 1, none⟩ = some (.slice x.dA x.dm x.dc) ∧ U.cell? ⟨b1, 2, none⟩ = some (.slice x.tA x.tm x.tc) ∧ U.cell? ⟨b1, 3, none⟩ = some (.slice x.A x.m x.c) ∧ U.cell? ⟨b1, 4, none⟩ = some (.slice x.B x.k x.d) ∧ Below V1.heap.size V1 U)) := by
      rintro U ⟨_, _, _, _, _, h⟩
      refine (alone_b x U (HX1.out.below h).at_ HF.out).mono ?_
      rintro e U' ⟨A, n, c, l, rfl, h2⟩
      obtain ⟨g1, g2, g3, g4, g5, g6, g7, g8, g9⟩ := h2.out
      refine ⟨A, n, c, l, rfl, ⟨?_, g4, g5, g6, g8, g9⟩, HCE.out _ (below_next h g1)⟩
      rcases g7 with rfl | ⟨g, rfl, q1, q2⟩
      · exact ⟨U, U.heap.size, (HX1.out.below h).at_, g1, h, fun ad e => (by cases e), Nat.le_refl _, g2, g3⟩
      · exact ⟨U, g, (HX1.out.below h).at_, g1, h, fun ad e => (Option.some.inj e).symm, q1, q2, g3⟩
    have HC2 : Hid (∀ (U : World) (A : Option Addr) (n c : Nat) (l : List Rw), (U.cell? ⟨b1, 0, none⟩ = some (.int .i64 x.N) ∧ U.cell? ⟨b1, 1, none⟩ = some (.slice x.dA x.dm x.dc) ∧ U.cell? ⟨b1, 2, none⟩ = some (.slice x.tA x.tm x.tc) ∧ U.cell? ⟨b1, 3, none⟩ = some (.slice x.A x.m x.c) ∧ U.cell? ⟨b1, 4, none⟩ = some (.slice x.B x.k x.d) ∧ Below V1.heap.size V1 U) → Hid (AlR V1 U x A n c l) → Calls Tryz.prog 27 #[.agg #[.int .i64 x.N, .slice x.dA x.dm x.dc, .slice x.tA x.tm x.tc, .slice x.A x.m x.c, .slice x.B x.k x.d], .slice A n c] U fun e U => ∃ (n' : Nat) (l' : List Rw), e = .returned (.slice A n' c) ∧ Hid (JdR V1 U x A n' c l') ∧ (U.cell? ⟨b1, 0, none⟩ = some (.int .i64 x.N) ∧ U.cell? ⟨b1, 1, none⟩ = some (.slice x.dA x.dm x.dc) ∧ U.cell? ⟨b1, 2, none⟩ = some (.slice x.tA x.tm x.tc) ∧ U.cell? ⟨b1, 3, none⟩ = some (.slice x.A x.m x.c) ∧ U.cell? ⟨b1, 4, none⟩ = some (.slice x.B x.k x.d) ∧ Below V1.heap.size V1 U)) := by
      rintro U A n c l ⟨_, _, _, _, _, h⟩ hR
      obtain ⟨w0, g, q1, q2, q3, q4, q5, q6, q7⟩ := hR.out.ex
      have hrw := (Sv.alone_rws (N := x.N) (D := x.D) (T := x.T) (ts := x.ts) (Rt.ok_of HF.out).ou).perm hR.out.pm.symm
      refine (joinAll_b x w0 U A g n c l q1 q2 q4 q5 q6 hR.out.len hR.out.nc hR.out.cm q7 hrw hR.out.so (by rw [hR.out.pm.flatten.length_eq]; exact Sv.alone_len HF.out)).mono ?_
      rintro e U' ⟨n', l', rfl, h2⟩
      obtain ⟨g1, g2, g3, g4, g5, g6⟩ := h2.out
      exact ⟨n', l', rfl, ⟨g1, g2, g4.mono q3.size, g5, g6.perm hR.out.pm⟩, HCE.out _ (below_next q3 g3)⟩
    obtain ⟨y0, y1, y2, y3, y4, hB0⟩ := HCE.out V1 (Below.refl _ _)
    have hB := hB0.drew
    clear HCE
    go_wp2
    go_region_held3 (fun U : World => (U.cell? ⟨b1, 0, none⟩ = some (.int .i64 x.N) ∧ U.cell? ⟨b1, 1, none⟩ = some (.slice x.dA x.dm x.dc) ∧ U.cell? ⟨b1, 2, none⟩ = some (.slice x.tA x.tm x.tc) ∧ U.cell? ⟨b1, 3, none⟩ = some (.slice x.A x.m x.c) ∧ U.cell? ⟨b1, 4, none⟩ = some (.slice x.B x.k x.d) ∧ Below V1.heap.size V1 U)) (first | exact ⟨y0, y1, y2, y3, y4, hB⟩ | exact ⟨k0, k1, k2, k3, k4, kb⟩ | assumption)
      (first
        | (go_at_call 28; ((with_reducible refine (HC1.out _ (by assumption)).mono ?_)); rintro e w7 ⟨A, n, c, l, rfl, HAL, k0, k1, k2, k3, k4, kb⟩)
        | (go_at_call 27; ((with_reducible refine (HC2.out _ _ _ _ _ (by assumption) HAL).mono ?_)); rintro e w8 ⟨n', l', rfl, HJD, k0, k1, k2, k3, k4, kb⟩))
    all_goals
      rename World => W2
      have HB2 := Lib.hid (below_next HB1.out kb)
      have HV := Lib.hid kb
      clear k0 k1 k2 k3 k4 kb y0 y1 y2 y3 y4 hB0 hB HC1 HC2 HX1 HAL
      have HC := Lib.hid (sort_rows 30 enters_cmp2 cf2 swo2 (fun r => 0 < r.m) cmps2 A n' c l' W2 V1.heap.size HV.out.size HJD.out.len (by have := HJD.out.n12; omega) HJD.out.rows (fun r hr => by
        have h1 := HJD.out.rws.ne r.st (List.mem_map.2 ⟨r, hr, rfl⟩)
        have h2 := (HJD.out.rows.ok r hr).sl
        have h3 := List.length_pos_iff.2 h1
        omega))
      go_wp2_with fail
      with_reducible refine HC.out.mono ?_
      rintro e W3 ⟨rfl, h5⟩
      go_wp2
      go_ret2
      obtain ⟨l2, hp, hs, hr, hb, _⟩ := h5.out
      refine HPO.out _ _ A n' c l2 rfl (HB1.out.trans ((HV.out.trans hb).mono HB1.out.size)) (by rw [hp.length_eq]; exact HJD.out.len) HJD.out.n12 (hr.mono HB1.out.size) (fun _ => ⟨⟨sts l', HJD.out.jn, hp.map _⟩, ?_⟩) (fun h => absurd trivial h)
      unfold sts
      rw [List.pairwise_map]
      refine hs.imp ?_
      intro a b h
      have := cf2_iff b.st a.st
      unfold Sv.le2
      omega
  · have e1 : (f != (0 : Int)) = true := bne_iff_ne.2 hf0
    go_wp2
    go_ret2
    exact HPO.out _ _ none 0 0 [] rfl HB1.out rfl (by omega) (SR.nil _ _ _) (fun h => absurd h hf0) (fun _ => rfl)
end Go.Proofs.YtjidelfpmlnhkaaGreat
