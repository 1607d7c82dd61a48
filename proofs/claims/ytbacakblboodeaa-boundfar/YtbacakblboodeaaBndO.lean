/- What is read of an argument that is a certificate, or a world whose rows' capacities matter; the law's large. -/
import Derived.Test.YtbacakblboodeaaBndE
import Derived.Test.YtbacakblboodeaaRouteOpen
import Derived.Test.YtbacakblboodeaaPlanOpen
namespace Go.Proofs.Ytbacakblboodeaa
open Go.ChangeShapes Go.WideShapes Go.ChangeAt Go.RowKit Go.Deep
set_option linter.unusedVariables false
set_option maxRecDepth 100000

theorem open_world_cap {H : Type} {enc : TypeId × Value → H} {W : World} {v : Value} {d : DataW H} {p : List MemPlace} {b0 : Nat}
    (hv : Value.okWide Try.prog W .any b0 28 v) (h : DataW.Trod enc Try.prog W 0 (fun _ => true) true 28 v d p) :
    ∃ x : Wd, v = .agg #[.int .i64 x.N, .slice x.dA x.dm x.dc, .slice x.tA x.tm x.tc, .slice x.A x.m x.c, .slice x.B x.k x.d] ∧ WorldIn W x ∧ x.k ≤ x.d ∧ x.dm ≤ x.dc := by
  obtain ⟨cs, rfl, hsz⟩ := okWide_struct Try.underlying28 hv
  obtain ⟨l⟩ := cs
  match l, hsz.trans cellsWorld with
  | [c0, c1, c2, c3, c4], _ =>
    obtain ⟨fuel, hf⟩ := h
    obtain ⟨ys, n', _, hy, hlen, hyl, hfs⟩ := DataW.trod_struct Try.underlying28 hf
    match ys, hyl with
    | [y0, y1, y2], _ =>
      have g0 : DataW.trod enc Try.prog W 0 (fun _ => true) true n' 24 [c0, c1, c2] = some y0 := by simpa [Value.cells, cellsArea] using hfs 0 _ rfl
      have g1 : DataW.trod enc Try.prog W 0 (fun _ => true) true n' 25 [c3] = some y1 := by simpa [Value.cells, cellsArea, cellsOs] using hfs 1 _ rfl
      have g2 : DataW.trod enc Try.prog W 0 (fun _ => true) true n' 26 [c4] = some y2 := by simpa [Value.cells, cellsArea, cellsOs, cellsTs] using hfs 2 _ rfl
      obtain ⟨zs, n2, _, _, _, hzl, hz⟩ := DataW.trod_struct Try.underlying24 g0
      match zs, hzl with
      | [u0, u1, u2], _ =>
        have f0 : DataW.trod enc Try.prog W 0 (fun _ => true) true n2 3 [c0] = some u0 := by simpa [cellsInt] using hz 0 _ rfl
        obtain ⟨N, hN, hyN, hw⟩ := DataW.trod_int Try.underlying3 f0
        simp at hN
        subst hN
        have hr : -9223372036854775808 ≤ N ∧ N ≤ 9223372036854775807 := by simpa [Lit.wf, IntKind.min, IntKind.max, IntKind.bits, IntKind.signed] using hw
        obtain ⟨A, m, c, os, rfl, a1, a2, a3, a4⟩ := orders_field g1
        obtain ⟨B, k, d, ts, rfl, b1, b2, b3, b4⟩ := trucks_field g2
        have f1 : DataW.trod enc Try.prog W 0 (fun _ => true) true n2 22 [c1] = some u1 := by simpa [cellsInt, cellsI64s] using hz 1 _ rfl
        have f2 : DataW.trod enc Try.prog W 0 (fun _ => true) true n2 22 [c2] = some u2 := by simpa [cellsInt, cellsI64s] using hz 2 _ rfl
        obtain ⟨dA, dm, dc, D, rfl, d1, d2, d3, d4⟩ := ints_field64 f1
        obtain ⟨tA, tm, tc, T, rfl, e1, e2, e3, e4⟩ := ints_field64 f2
        exact ⟨⟨N, dA, dm, dc, D, tA, tm, tc, T, A, m, c, os, B, k, d, ts⟩, rfl, ⟨hr.2, d1, Nat.le_trans d2 d3, e1, Nat.le_trans e2 e3, a1, Nat.le_trans a2 a3, b1, Nat.le_trans b2 b3, d4, e4, a4, b4⟩, b2, d2⟩


theorem cellsCert : Try.prog.cellsOf 31 = 6 := by kernel_rfl
theorem cells64 : Try.prog.cellsOf 2 = 1 := by kernel_rfl
/-- a certificate that came in -/
structure CertIn (W : World) (q : Ct) : Prop where
  il : q.ids.length = q.im
  ic : q.im ≤ q.ic
  ix : q.im ≤ maxLen
  ii : IntsAt W q.iA q.ids
  nl : q.inn.length = q.nm
  nc : q.nm ≤ q.nc
  nx : q.nm ≤ maxLen
  nn : IntsAt W q.nA q.inn
theorem CertIn.below {w w' : World} {q : Ct} (h : CertIn w q) (hb : Below w.heap.size w w') : CertIn w' q := ⟨h.il, h.ic, h.ix, h.ii.below hb, h.nl, h.nc, h.nx, h.nn.below hb⟩
theorem CertIn.at_ {w : World} {q : Ct} (h : CertIn w q) (h1 : q.im ≤ 100) (h2 : q.nm ≤ 100) : CtAt w q := ⟨h.il, by omega, h.ii, h.nl, by omega, h.nn⟩
theorem open_cert_in {H : Type} {enc : TypeId × Value → H} {W : World} {v : Value} {d : DataW H} {p : List MemPlace} {b0 : Nat}
    (hv : Value.okWide Try.prog W .any b0 31 v) (h : DataW.Trod enc Try.prog W 0 (fun _ => true) true 31 v d p) :
    ∃ q : Ct, v = .agg #[.slice q.iA q.im q.ic, .slice q.nA q.nm q.nc, .int .i64 q.back, .int .i64 q.rate, .int .i64 q.fixed, .int .i64 q.bound] ∧ CertIn W q := by
  obtain ⟨cs, rfl, hsz⟩ := okWide_struct Try.underlying31 hv
  obtain ⟨l⟩ := cs
  match l, hsz.trans cellsCert with
  | [c0, c1, c2, c3, c4, c5], _ =>
    obtain ⟨fuel, hf⟩ := h
    obtain ⟨ys, n', _, hy, hlen, hyl, hfs⟩ := DataW.trod_struct Try.underlying31 hf
    match ys, hyl with
    | [y0, y1, y2, y3, y4, y5], _ =>
      have g0 : DataW.trod enc Try.prog W 0 (fun _ => true) true n' 29 [c0] = some y0 := by simpa [Value.cells, cellsInts] using hfs 0 _ rfl
      have g1 : DataW.trod enc Try.prog W 0 (fun _ => true) true n' 22 [c1] = some y1 := by simpa [Value.cells, cellsInts, cellsI64s] using hfs 1 _ rfl
      have g2 : DataW.trod enc Try.prog W 0 (fun _ => true) true n' 2 [c2] = some y2 := by simpa [Value.cells, cellsInts, cellsI64s, cells64] using hfs 2 _ rfl
      have g3 : DataW.trod enc Try.prog W 0 (fun _ => true) true n' 2 [c3] = some y3 := by simpa [Value.cells, cellsInts, cellsI64s, cells64] using hfs 3 _ rfl
      have g4 : DataW.trod enc Try.prog W 0 (fun _ => true) true n' 2 [c4] = some y4 := by simpa [Value.cells, cellsInts, cellsI64s, cells64] using hfs 4 _ rfl
      have g5 : DataW.trod enc Try.prog W 0 (fun _ => true) true n' 2 [c5] = some y5 := by simpa [Value.cells, cellsInts, cellsI64s, cells64] using hfs 5 _ rfl
      obtain ⟨A, m, c, ids, rfl, a1, a2, a3, a4⟩ := ints_field g0
      obtain ⟨B, k, d, inn, rfl, b1, b2, b3, b4⟩ := ints_field64 g1
      obtain ⟨x2, e2, _, _⟩ := DataW.trod_int Try.underlying2 g2
      obtain ⟨x3, e3, _, _⟩ := DataW.trod_int Try.underlying2 g3
      obtain ⟨x4, e4, _, _⟩ := DataW.trod_int Try.underlying2 g4
      obtain ⟨x5, e5, _, _⟩ := DataW.trod_int Try.underlying2 g5
      simp at e2 e3 e4 e5
      subst e2 e3 e4 e5
      exact ⟨⟨A, m, c, ids, B, k, d, inn, x2, x3, x4, x5⟩, rfl, ⟨a1, a2, Nat.le_trans a2 a3, a4, b1, b2, Nat.le_trans b2 b3, b4⟩⟩

/-- more than the statements look at -/
def LargeC (x : Wd) (q : Ct) : Prop := Large x ⟨0, none, q.im, 0, []⟩ ∨ 100 < q.nm
theorem rd_of {x : Wd} {q : Ct} (h : ¬ LargeC x q) : ¬ Large x ⟨0, none, q.im, 0, []⟩ := fun e => h (.inl e)
theorem CertIn.small {w : World} {x : Wd} {q : Ct} (h : CertIn w q) (hs : ¬ LargeC x q) : CtAt w q := by
  have h1 := rd_of hs
  unfold Large at h1
  exact h.at_ (Nat.le_of_not_lt fun e => h1 (.inr (.inr (.inr (.inr e))))) (Nat.le_of_not_lt fun e => hs (.inr e))
theorem qbox0 {w : World} {b : Nat} {q : Ct} (h : Box w b q.cells 31) : w.cell? ⟨b, 0, none⟩ = some (.slice q.iA q.im q.ic) := h.cell 0 _ rfl
theorem qbox1 {w : World} {b : Nat} {q : Ct} (h : Box w b q.cells 31) : w.cell? ⟨b, 1, none⟩ = some (.slice q.nA q.nm q.nc) := h.cell 1 _ rfl
theorem qbox2 {w : World} {b : Nat} {q : Ct} (h : Box w b q.cells 31) : w.cell? ⟨b, 2, none⟩ = some (.int .i64 q.back) := h.cell 2 _ rfl
theorem qbox3 {w : World} {b : Nat} {q : Ct} (h : Box w b q.cells 31) : w.cell? ⟨b, 3, none⟩ = some (.int .i64 q.rate) := h.cell 3 _ rfl
theorem qbox4 {w : World} {b : Nat} {q : Ct} (h : Box w b q.cells 31) : w.cell? ⟨b, 4, none⟩ = some (.int .i64 q.fixed) := h.cell 4 _ rfl
theorem qbox5 {w : World} {b : Nat} {q : Ct} (h : Box w b q.cells 31) : w.cell? ⟨b, 5, none⟩ = some (.int .i64 q.bound) := h.cell 5 _ rfl
structure WC (V : World) (b1 b2 : Nat) (x : Wd) (q : Ct) : Prop where
  w : Box V b1 x.cells 28
  c : Box V b2 q.cells 31
theorem WC.below {V V' : World} {b1 b2 : Nat} {x : Wd} {q : Ct} (h : WC V b1 b2 x q) (hb : Below V.heap.size V V') : WC V' b1 b2 x q := ⟨h.w.below hb, h.c.below hb⟩

set_option maxHeartbeats 4000000 in
theorem clarge_b (x : Wd) (q : Ct) (w : World) (r : Bool) (hr : r = true ↔ LargeC x q) (hx : WorldIn w x) (hq : CertIn w q) :
    Calls Try.prog 8 #[.agg #[.int .i64 x.N, .slice x.dA x.dm x.dc, .slice x.tA x.tm x.tc, .slice x.A x.m x.c, .slice x.B x.k x.d], .agg #[.slice q.iA q.im q.ic, .slice q.nA q.nm q.nc, .int .i64 q.back, .int .i64 q.rate, .int .i64 q.fixed, .int .i64 q.bound]] w fun e w' => e = .returned (.bool r) ∧ Hid (Below w.heap.size w w') := by
  have HX : Hid (WC ((w.alloc (.cells #[.int .i64 x.N, .slice x.dA x.dm x.dc, .slice x.tA x.tm x.tc, .slice x.A x.m x.c, .slice x.B x.k x.d] 28)).alloc (.cells #[.slice q.iA q.im q.ic, .slice q.nA q.nm q.nc, .int .i64 q.back, .int .i64 q.rate, .int .i64 q.fixed, .int .i64 q.bound] 31)) w.heap.size (w.heap.size + 1) x q) := ⟨(Box.new w _ _).below (below_alloc _ _), box_at _ _ _ _ (by simp)⟩
  have HB0 : Hid (Below w.heap.size w ((w.alloc (.cells #[.int .i64 x.N, .slice x.dA x.dm x.dc, .slice x.tA x.tm x.tc, .slice x.A x.m x.c, .slice x.B x.k x.d] 28)).alloc (.cells #[.slice q.iA q.im q.ic, .slice q.nA q.nm q.nc, .int .i64 q.back, .int .i64 q.rate, .int .i64 q.fixed, .int .i64 q.bound] 31))) := below_more (below_alloc _ _) _
  have HR := Lib.hid hr
  have HL := Lib.hid (And.intro hx hq)
  clear hr hx hq
  go_enter Try.func8, Try.ntmps8
  have x0 := wbox0 HX.out.w
  have x1 := wbox1 HX.out.w
  have x2 := wbox2 HX.out.w
  have x3 := wbox3 HX.out.w
  have x4 := wbox4 HX.out.w
  have y0 := qbox0 HX.out.c
  by_cases hl : Large x ⟨0, none, q.im, 0, []⟩
  · have HF : Hid (r = true) := HR.out.2 (.inl hl)
    have HC := Lib.hid (large_yes x ⟨0, none, q.im, 0, []⟩ ((w.alloc (.cells #[.int .i64 x.N, .slice x.dA x.dm x.dc, .slice x.tA x.tm x.tc, .slice x.A x.m x.c, .slice x.B x.k x.d] 28)).alloc (.cells #[.slice q.iA q.im q.ic, .slice q.nA q.nm q.nc, .int .i64 q.back, .int .i64 q.rate, .int .i64 q.fixed, .int .i64 q.bound] 31)) HL.out.1.mx HL.out.1.kx HL.out.1.dx HL.out.1.tx HL.out.2.ix hl)
    clear hl
    go_wp2_with (go_at_call 18; (with_reducible refine HC.out.mono ?_); rintro e w2 ⟨rfl, hb2⟩)
    go_ret
    exact ⟨by rw [HF.out]; rfl, below_next HB0.out hb2.out⟩
  · have HC : Hid (Calls Try.prog 18 #[.agg #[.int .i64 x.N, .slice x.dA x.dm x.dc, .slice x.tA x.tm x.tc, .slice x.A x.m x.c, .slice x.B x.k x.d], .int .i64 (q.im : Int)] ((w.alloc (.cells #[.int .i64 x.N, .slice x.dA x.dm x.dc, .slice x.tA x.tm x.tc, .slice x.A x.m x.c, .slice x.B x.k x.d] 28)).alloc (.cells #[.slice q.iA q.im q.ic, .slice q.nA q.nm q.nc, .int .i64 q.back, .int .i64 q.rate, .int .i64 q.fixed, .int .i64 q.bound] 31)) fun e w' => e = .returned (.bool false) ∧ w'.cell? ⟨w.heap.size + 1, 1, none⟩ = some (.slice q.nA q.nm q.nc) ∧ Hid (Below w.heap.size w w')) :=
      (large_no x ⟨0, none, q.im, 0, []⟩ ((w.alloc (.cells #[.int .i64 x.N, .slice x.dA x.dm x.dc, .slice x.tA x.tm x.tc, .slice x.A x.m x.c, .slice x.B x.k x.d] 28)).alloc (.cells #[.slice q.iA q.im q.ic, .slice q.nA q.nm q.nc, .int .i64 q.back, .int .i64 q.rate, .int .i64 q.fixed, .int .i64 q.bound] 31)) hl).mono fun e w' ⟨e1, h⟩ => ⟨e1, qbox1 (HX.out.below h.out).c, below_next HB0.out h.out⟩
    by_cases hn : 100 < q.nm
    · have HF : Hid (r = true) := HR.out.2 (.inr hn)
      have d1 : decide ((100 : Int) < (q.nm : Int)) = true := decide_eq_true (by omega)
      clear hl hn
      go_wp2_with (go_at_call 18; (with_reducible refine HC.out.mono ?_); rintro e w2 ⟨rfl, y1, hb2⟩)
      go_ret
      exact ⟨by rw [HF.out]; rfl, hb2.out⟩
    · have HF : Hid (r = false) := Bool.eq_false_iff.2 fun e => (HR.out.1 e).elim hl hn
      have d1 : decide ((100 : Int) < (q.nm : Int)) = false := decide_eq_false (by omega)
      clear hl hn
      go_wp2_with (go_at_call 18; (with_reducible refine HC.out.mono ?_); rintro e w2 ⟨rfl, y1, hb2⟩)
      go_ret
      exact ⟨by rw [HF.out]; rfl, hb2.out⟩
end Go.Proofs.Ytbacakblboodeaa
