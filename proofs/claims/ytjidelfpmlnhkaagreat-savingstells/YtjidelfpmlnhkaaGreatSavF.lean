/- Contracts of package savings: a row of each order that some truck can run alone. -/
import Derived.Test.YtjidelfpmlnhkaaGreatSavS
import Derived.Test.YtjidelfpmlnhkaaGreatSavC
import Derived.Shelf.SlSortCmp.Xorshift
namespace Go.Proofs.YtjidelfpmlnhkaaGreat
open Go.RowKit Go.Shelf Go.Sort
set_option linter.unusedVariables false
set_option maxRecDepth 100000

/-- no rows, sorted -/
theorem insertion0 (p : Option Addr) (c : Nat) (fv : Value) (w : World) :
    Calls Tryz.prog 98 #[.slice p 0 c, .int .i64 0, .int .i64 0, fv] w fun e w' => e = .returned (.tuple #[]) ∧ w = w' := by
  go_enter Tryz.func98, Tryz.ntmps98
  go_wp2
  refine wp_loop_rounds 1 ?_
  rw [rounds_succ]
  go_wp2
  go_end0
  exact ⟨rfl, rfl⟩
theorem pdq0 (p : Option Addr) (c : Nat) (lim : Int) (fv : Value) (w : World) :
    Calls Tryz.prog 64 #[.slice p 0 c, .int .i64 0, .int .i64 0, .int .i64 lim, fv] w fun e w' => e = .returned (.tuple #[]) ∧ w = w' := by
  have HI := Lib.hid (insertion0 p c fv w)
  go_enter Tryz.func64, Tryz.ntmps64
  go_wp2
  refine wp_loop_rounds 1 ?_
  rw [rounds_succ]
  go_wp2_with fail
  with_reducible refine HI.out.mono ?_
  rintro e w1 ⟨rfl, rfl⟩
  go_wp2
  (try simp only [Exit.inBlock, Exit.then])
  refine bodyPost_ret (results_none rfl _ _ _) rfl ?_
  exact ⟨rfl, rfl⟩
theorem sort0 (p : Option Addr) (c : Nat) (fv : Value) (w : World) :
    Calls Tryz.prog 29 #[.slice p 0 c, fv] w fun e w' => e = .returned (.tuple #[]) ∧ w = w' := by
  have HL : Hid (Calls Tryz.prog 65 #[.int .u64 0] w fun e w' => e = .returned (.int .i64 (Lib.bitLen 0 : Nat)) ∧ w = w') :=
    (Any.bits_Len (SlLaysF0.n15.bits (P := Tryz.prog) (ρ := Tryz.laysSortF_ren) { Tryz.laysSortF with }) 0 w (by omega) (by omega)).mono fun _ _ ⟨h1, h2⟩ => ⟨h1, h2.symm⟩
  have HP : Hid (∀ lim, Calls Tryz.prog 64 #[.slice p 0 c, .int .i64 0, .int .i64 0, .int .i64 lim, fv] w fun e w' => e = .returned (.tuple #[]) ∧ w = w') := fun lim => pdq0 p c lim fv w
  go_enter Tryz.func29, Tryz.ntmps29
  go_wp2_with fail
  with_reducible refine HL.out.mono ?_
  rintro e w1 ⟨rfl, rfl⟩
  go_wp2_with fail
  with_reducible refine (HP.out _).mono ?_
  rintro e w1 ⟨rfl, rfl⟩
  go_wp2
  go_end0
  exact ⟨rfl, rfl⟩

theorem enters_cmp1 : ∀ args w, (callFunc 63 args).run Tryz.prog w = .ok (.enter 63 args) w := enters_of Tryz.func63 (by kernel_rfl) rfl
theorem enters_cmp2 : ∀ args w, (callFunc 30 args).run Tryz.prog w = .ok (.enter 30 args) w := enters_of Tryz.func30 (by kernel_rfl) rfl
/-- rows, sorted, be there any or none -/
theorem sort_rows (G : Nat) (hG : ∀ args w, (callFunc G args).run Tryz.prog w = .ok (.enter G args) w) (cf : List Int → List Int → Int) (hS : SWO (fun a b : List Int => decide (cf a b < 0))) (q : Rw → Prop) (hc : Cmps G cf q)
    (A : Option Addr) (n c : Nat) (l : List Rw) (W : World) (base : Nat) (hb : base ≤ W.heap.size) (hn : l.length = n) (hn2 : n ≤ 100000) (h : SR W base A l) (hq : ∀ r ∈ l, q r) :
    Calls Tryz.prog 29 #[.slice A n c, .func (.func G) #[] #[]] W (SortPost cf W base A l) := by
  by_cases h0 : 0 < n
  · obtain ⟨r0, hr0⟩ := mlist_at l 0 (by omega)
    obtain ⟨g, cs, rfl, _⟩ := h.at_ 0 r0 hr0
    exact sortf_b G hG cf hS q hc g n c l W base hn hn2 h0 h hq
  · obtain rfl : n = 0 := by omega
    obtain rfl : l = [] := List.eq_nil_of_length_eq_zero hn
    refine (sort0 A c _ W).mono ?_
    rintro e w' ⟨rfl, rfl⟩
    exact ⟨rfl, [], List.Perm.refl _, List.Pairwise.nil, SR.nil _ _ _, Below.refl _ _, KeepI.refl _⟩

/-- rows of one order each, as they are gathered -/
structure AloneS (W : World) (base : Nat) (f : List Int → Bool) (os : List Ld.O) (k : Nat) (A : Option Addr) (n c : Nat) (l : List Rw) : Prop where
  own : OwnS W base (.slice A n c) l
  len : l.length = n
  le : n ≤ k
  ok : ∀ r ∈ l, RwOk W r ∧ r.m = 1
  eq : sts l = ((os.take k).map fun o => [o.id]).filter f
theorem AloneS.below {W W' : World} {base k n c : Nat} {f : List Int → Bool} {os : List Ld.O} {A : Option Addr} {l : List Rw} (h : AloneS W base f os k A n c l) (hb : Below W.heap.size W W') : AloneS W' base f os k A n c l :=
  ⟨h.own.below hb, h.len, h.le, fun r hr => ⟨(h.ok r hr).1.below hb, (h.ok r hr).2⟩, h.eq⟩
theorem AloneS.skip {W : World} {base k n c : Nat} {f : List Int → Bool} {os : List Ld.O} {A : Option Addr} {l : List Rw} (h : AloneS W base f os k A n c l) {o : Ld.O} (ho : os[k]? = some o) (hf : f [o.id] = false) : AloneS W base f os (k + 1) A n c l := by
  refine ⟨h.own, h.len, by have := h.le; omega, h.ok, ?_⟩
  rw [h.eq, List.take_add_one, ho]
  simp [hf]
theorem AloneS.put {W W' : World} {base k n c c' : Nat} {f : List Int → Bool} {os : List Ld.O} {A A' : Option Addr} {l : List Rw} (h : AloneS W base f os k A n c l) {o : Ld.O} (ho : os[k]? = some o) (hf : f [o.id] = true) {r : Rw} (hr : r.st = [o.id]) (hm : r.m = 1) (hok : RwOk W r) (hk : KeepI W W') (ho' : OwnS W' base (.slice A' (l ++ [r]).length c') (l ++ [r])) :
    AloneS W' base f os (k + 1) A' (l ++ [r]).length c' (l ++ [r]) := by
  refine ⟨ho', rfl, by rw [List.length_append, h.len]; have := h.le; simp; omega, fun s hs => ?_, ?_⟩
  · rcases List.mem_append.1 hs with hs | hs
    · exact ⟨(h.ok s hs).1.keep hk, (h.ok s hs).2⟩
    · obtain rfl := List.mem_singleton.1 hs
      exact ⟨hok.keep hk, hm⟩
  · have e : sts (l ++ [r]) = sts l ++ [r.st] := by unfold sts; simp
    rw [e, h.eq, List.take_add_one, ho, hr]
    simp [hf]

/-- what alone leaves -/
def AlonePost (w : World) (x : Wd) (e : Ending) (w' : World) : Prop := ∃ (A : Option Addr) (n c : Nat) (l : List Rw), e = .returned (.slice A n c) ∧ Hid (Below w.heap.size w w' ∧ w.heap.size < w'.heap.size ∧ SR w' w.heap.size A l ∧ l.length = n ∧ n ≤ c ∧ c ≤ maxLen ∧ (A = none ∨ ∃ (g : Nat), A = some ⟨g, 0, none⟩ ∧ w.heap.size ≤ g ∧ g < w'.heap.size) ∧ (sts l).Perm (Sv.aloneL x.N x.D x.T x.os x.ts) ∧ (sts l).Pairwise fun a b => Sv.hd a < Sv.hd b)
set_option maxHeartbeats 8000000 in
theorem alone_b (x : Wd) (w : World) (hx : WAt w x) (hw : Rt.worldE x.N x.D x.T x.os x.ts = 0) :
    Calls Tryz.prog 28 #[.agg #[.int .i64 x.N, .slice x.dA x.dm x.dc, .slice x.tA x.tm x.tc, .slice x.A x.m x.c, .slice x.B x.k x.d]] w (AlonePost w x) := by
  have HX := Lib.hid (WX.new hx)
  have HB0 : Hid (Below w.heap.size w (w.alloc (.cells #[.int .i64 x.N, .slice x.dA x.dm x.dc, .slice x.tA x.tm x.tc, .slice x.A x.m x.c, .slice x.B x.k x.d] 28))) := below_alloc _ _
  have HVS : Hid (w.heap.size < (w.alloc (.cells #[.int .i64 x.N, .slice x.dA x.dm x.dc, .slice x.tA x.tm x.tc, .slice x.A x.m x.c, .slice x.B x.k x.d] 28)).heap.size) := by unfold Hid; simp
  have HML := Lib.hid hx.ml
  have HM12 : Hid (x.m ≤ 12) := by unfold Hid; rw [← hx.ml]; exact (Rt.ok_of hw).ol
  have HTL : Hid ((x.ts.map Ld.T.id).length ≤ 1000) := by unfold Hid; rw [List.length_map, hx.kl]; exact hx.k2
  have HW := Lib.hid hw
  obtain ⟨F, hF⟩ : ∃ F, Sv.canB x.N x.D x.T x.os x.ts = F := ⟨_, rfl⟩
  have HF := Lib.hid hF
  clear hx hw hF
  have x3 := HX.out.c3
  go_enter Tryz.func28, Tryz.ntmps28
  go_wp2_with fail
  clear x3
  generalize (w.alloc (.cells #[.int .i64 x.N, .slice x.dA x.dm x.dc, .slice x.tA x.tm x.tc, .slice x.A x.m x.c, .slice x.B x.k x.d] 28)) = V at *
  generalize hb1 : w.heap.size = b1 at HX ⊢
  clear hb1
  go_loopg [3, 10] x.m (fun gk s3 s10 Wx => ∃ (k : Nat) (A : Option Addr) (n c : Nat) (l : List Rw) (W : World), W = Wx ∧ k + gk = x.m ∧ s10 = .int .i64 k ∧ s3 = .slice A n c ∧ Hid (Below V.heap.size V W) ∧ Hid (AloneS W V.heap.size F x.os k A n c l))
  case atStart => exact ⟨0, none, 0, 0, [], _, rfl, by omega, rfl, rfl, Below.refl _ _, ownS_nil _ _, rfl, Nat.le_refl _, (fun r hr => by cases hr), rfl⟩
  case round =>
    obtain ⟨k, A, n, c, l, W, rfl, hkg, rfl, rfl, HB, HS⟩ := hrel
    have HXW := Lib.hid (HX.out.below HB.out)
    have hm12 : x.m ≤ 12 := HM12.out
    by_cases hlt : k < x.m
    · obtain ⟨gk, rfl⟩ : ∃ j, gk = j + 1 := ⟨gk - 1, by omega⟩
      obtain ⟨⟨a0, a1, a2, a3, a4, a5, a6, a7⟩, ho⟩ := mlist_at x.os k (by rw [HML.out]; exact hlt)
      obtain ⟨ad, hxA, c0, c1, c2, c3, c4, c5, c6, c7⟩ := HXW.out.at_.os.at_ ho
      simp only at c0 c1 c2 c3 c4 c5 c6 c7
      have HO := Lib.hid ho
      have HXA := Lib.hid hxA
      have i2 : (k : Int) < (x.m : Int) := by omega
      have HB1 := Lib.hid (below_more (below_more HB.out (.cells #[.int .i64 a0, .int .i64 a1, .int .i64 a2, .int .i64 a3, .int .i64 a4, .int .i64 a5, .int .i64 a6, .int .i64 a7] 62)) (.cells #[.int .i64 a0] 3))
      have HX1 := Lib.hid ((HXW.out.below (below_alloc W (.cells #[.int .i64 a0, .int .i64 a1, .int .i64 a2, .int .i64 a3, .int .i64 a4, .int .i64 a5, .int .i64 a6, .int .i64 a7] 62))).below (below_alloc _ (.cells #[.int .i64 a0] 3)))
      have HS1 := Lib.hid ((HS.out.below (below_alloc W (.cells #[.int .i64 a0, .int .i64 a1, .int .i64 a2, .int .i64 a3, .int .i64 a4, .int .i64 a5, .int .i64 a6, .int .i64 a7] 62))).below (below_alloc _ (.cells #[.int .i64 a0] 3)))
      have HR1 : Hid (RwOk ((W.alloc (.cells #[.int .i64 a0, .int .i64 a1, .int .i64 a2, .int .i64 a3, .int .i64 a4, .int .i64 a5, .int .i64 a6, .int .i64 a7] 62)).alloc (.cells #[.int .i64 a0] 3)) ⟨some ⟨W.heap.size + 1, 0, none⟩, 1, 1, [a0]⟩) := by
        have h1 := ints1 (W.alloc (.cells #[.int .i64 a0, .int .i64 a1, .int .i64 a2, .int .i64 a3, .int .i64 a4, .int .i64 a5, .int .i64 a6, .int .i64 a7] 62)) a0 3
        have e : (W.alloc (.cells #[.int .i64 a0, .int .i64 a1, .int .i64 a2, .int .i64 a3, .int .i64 a4, .int .i64 a5, .int .i64 a6, .int .i64 a7] 62)).heap.size = W.heap.size + 1 := by simp
        have h2 : Box ((W.alloc (.cells #[.int .i64 a0, .int .i64 a1, .int .i64 a2, .int .i64 a3, .int .i64 a4, .int .i64 a5, .int .i64 a6, .int .i64 a7] 62)).alloc (.cells #[.int .i64 a0] 3)) (W.alloc (.cells #[.int .i64 a0, .int .i64 a1, .int .i64 a2, .int .i64 a3, .int .i64 a4, .int .i64 a5, .int .i64 a6, .int .i64 a7] 62)).heap.size #[.int .i64 a0] 3 := Box.new _ _ _
        rw [e] at h1 h2
        exact ⟨rfl, by show 1 ≤ 100; omega, h1, fun ad' e' => by obtain rfl := Option.some.inj e'; exact ⟨_, _, h2⟩⟩
      have u0 : (W.alloc (.cells #[.int .i64 a0, .int .i64 a1, .int .i64 a2, .int .i64 a3, .int .i64 a4, .int .i64 a5, .int .i64 a6, .int .i64 a7] 62)).cell? ⟨W.heap.size, 0, none⟩ = some (.int .i64 a0) := (Box.new W _ _).cell 0 _ rfl
      clear ho hxA HS HB HXW
      generalize x.A = xA at *
      obtain rfl := HXA.out
      go_wp2_with fail
      clear c0 c1 c2 c3 c4 c5 c6 c7 u0
      generalize W.heap.size + 1 = rg at *
      generalize ((W.alloc (.cells #[.int .i64 a0, .int .i64 a1, .int .i64 a2, .int .i64 a3, .int .i64 a4, .int .i64 a5, .int .i64 a6, .int .i64 a7] 62)).alloc (.cells #[.int .i64 a0] 3)) = W1 at *
      have HCE : Hid (∀ U, Below W1.heap.size W1 U → (U.cell? ⟨b1, 0, none⟩ = some (.int .i64 x.N) ∧ U.cell? ⟨b1, 1, none⟩ = some (.slice x.dA x.dm x.dc) ∧ U.cell? ⟨b1, 2, none⟩ = some (.slice x.tA x.tm x.tc) ∧ U.cell? ⟨b1, 3, none⟩ = some (.slice x.A x.m x.c) ∧ U.cell? ⟨b1, 4, none⟩ = some (.slice x.B x.k x.d) ∧ Below W1.heap.size W1 U)) := fun U hU => ⟨(HX1.out.below hU).c0, (HX1.out.below hU).c1, (HX1.out.below hU).c2, (HX1.out.below hU).c3, (HX1.out.below hU).c4, hU⟩
      have HC1 : Hid (∀ U, (U.cell? ⟨b1, 0, none⟩ = some (.int .i64 x.N) ∧ U.cell? ⟨b1, 1, none⟩ = some (.slice x.dA x.dm x.dc) ∧ U.cell? ⟨b1, 2, none⟩ = some (.slice x.tA x.tm x.tc) ∧ U.cell? ⟨b1, 3, none⟩ = some (.slice x.A x.m x.c) ∧ U.cell? ⟨b1, 4, none⟩ = some (.slice x.B x.k x.d) ∧ Below W1.heap.size W1 U) → Calls Tryz.prog 35 #[.agg #[.int .i64 x.N, .slice x.dA x.dm x.dc, .slice x.tA x.tm x.tc, .slice x.A x.m x.c, .slice x.B x.k x.d]] U fun e U => ∃ (tA : Option Addr) (tc : Nat), e = .returned (.slice tA (Pl.srt (x.ts.map Ld.T.id)).length tc) ∧ Hid (IntsAt U tA (Pl.srt (x.ts.map Ld.T.id))) ∧ (U.cell? ⟨b1, 0, none⟩ = some (.int .i64 x.N) ∧ U.cell? ⟨b1, 1, none⟩ = some (.slice x.dA x.dm x.dc) ∧ U.cell? ⟨b1, 2, none⟩ = some (.slice x.tA x.tm x.tc) ∧ U.cell? ⟨b1, 3, none⟩ = some (.slice x.A x.m x.c) ∧ U.cell? ⟨b1, 4, none⟩ = some (.slice x.B x.k x.d) ∧ Below W1.heap.size W1 U)) := by
        rintro U ⟨_, _, _, _, _, h⟩
        refine (strucks_b x U (HX1.out.below h).at_).mono ?_
        rintro e U' ⟨tA, tc, rfl, h2⟩
        obtain ⟨A', c', e, _, _, h3⟩ := h2.out.2.1.ints
        injection e with e1 e2 e3
        subst e1
        exact ⟨tA, tc, rfl, h3, HCE.out _ (below_next h h2.out.1)⟩
      have HC2 : Hid (∀ (U : World) (tA : Option Addr) (tc : Nat), (U.cell? ⟨b1, 0, none⟩ = some (.int .i64 x.N) ∧ U.cell? ⟨b1, 1, none⟩ = some (.slice x.dA x.dm x.dc) ∧ U.cell? ⟨b1, 2, none⟩ = some (.slice x.tA x.tm x.tc) ∧ U.cell? ⟨b1, 3, none⟩ = some (.slice x.A x.m x.c) ∧ U.cell? ⟨b1, 4, none⟩ = some (.slice x.B x.k x.d) ∧ Below W1.heap.size W1 U) → Hid (IntsAt U tA (Pl.srt (x.ts.map Ld.T.id))) → Calls Tryz.prog 36 #[.agg #[.int .i64 x.N, .slice x.dA x.dm x.dc, .slice x.tA x.tm x.tc, .slice x.A x.m x.c, .slice x.B x.k x.d], .slice tA (Pl.srt (x.ts.map Ld.T.id)).length tc, .slice (some ⟨rg, 0, none⟩) 1 1] U fun e U => ∃ p : Int, e = .returned (.int .i64 p) ∧ Hid (F [a0] = !(decide (p = -1))) ∧ (U.cell? ⟨b1, 0, none⟩ = some (.int .i64 x.N) ∧ U.cell? ⟨b1, 1, none⟩ = some (.slice x.dA x.dm x.dc) ∧ U.cell? ⟨b1, 2, none⟩ = some (.slice x.tA x.tm x.tc) ∧ U.cell? ⟨b1, 3, none⟩ = some (.slice x.A x.m x.c) ∧ U.cell? ⟨b1, 4, none⟩ = some (.slice x.B x.k x.d) ∧ Below W1.heap.size W1 U)) := by
        rintro U tA tc ⟨_, _, _, _, _, h⟩ hT
        refine (cheapest_b x tA _ tc (Pl.srt (x.ts.map Ld.T.id)) ⟨some ⟨rg, 0, none⟩, 1, 1, [a0]⟩ U _ rfl (HX1.out.below h).at_ rfl (by rw [Pl.srt_len]; exact HTL.out) hT.out (HR1.out.below h)).mono ?_
        rintro e U' ⟨p, z, rfl, h2⟩
        exact ⟨p, rfl, by rw [← HF.out]; exact Sv.ch_can (Pl.srt_perm _) h2.out.2, HCE.out _ (below_next h h2.out.1)⟩
      obtain ⟨y0, y1, y2, y3, y4, hB0⟩ := HCE.out W1 (Below.refl _ _)
      have hB := hB0.drew
      clear HCE
      generalize hL : (Pl.srt (x.ts.map Ld.T.id)).length = tL at *
      clear hL
      go_wp2
      go_region_held3 (fun U : World => (U.cell? ⟨b1, 0, none⟩ = some (.int .i64 x.N) ∧ U.cell? ⟨b1, 1, none⟩ = some (.slice x.dA x.dm x.dc) ∧ U.cell? ⟨b1, 2, none⟩ = some (.slice x.tA x.tm x.tc) ∧ U.cell? ⟨b1, 3, none⟩ = some (.slice x.A x.m x.c) ∧ U.cell? ⟨b1, 4, none⟩ = some (.slice x.B x.k x.d) ∧ Below W1.heap.size W1 U)) (first | exact ⟨y0, y1, y2, y3, y4, hB⟩ | exact ⟨k0, k1, k2, k3, k4, kb⟩ | assumption)
        (first
          | (go_at_call 35; ((with_reducible refine (HC1.out _ (by assumption)).mono ?_)); rintro e w7 ⟨tA, tc, rfl, HIT, k0, k1, k2, k3, k4, kb⟩)
          | (go_at_call 36; ((with_reducible refine (HC2.out _ _ _ (by assumption) HIT).mono ?_)); rintro e w8 ⟨p, rfl, HPF, k0, k1, k2, k3, k4, kb⟩))
      all_goals
        rename World => W2
        have HB2 := Lib.hid (below_next HB1.out kb)
        have HS2 := Lib.hid (HS1.out.below kb)
        have HR2 := Lib.hid (HR1.out.below kb)
        clear k0 k1 k2 k3 k4 kb y0 y1 y2 y3 y4 hB0 hB HC1 HC2 HB1 HS1 HR1 HX1 HIT
        by_cases hp : p = -1
        · subst hp
          have e1 : ((-1 : Int) != (-1 : Int)) = false := by decide
          have HS3 := Lib.hid (HS2.out.skip HO.out (by rw [HPF.out]; rfl))
          go_wp2
          go_roundg gk
          case measure => omega
          case rel => exact ⟨k + 1, A, n, c, l, _, rfl, by omega, by first | rfl | go_num, rfl, HB2.out, HS3.out⟩
        · have e1 : (p != (-1 : Int)) = true := bne_iff_ne.2 hp
          have HF1 : Hid (F [a0] = true) := by unfold Hid; rw [HPF.out, decide_eq_false hp]; rfl
          have HA := Lib.hid (owns_app HS2.out.own HB2.out.size ⟨some ⟨rg, 0, none⟩, 1, 1, [a0]⟩ (by rw [HS2.out.len]; have := HS2.out.le; have := HM12.out; omega))
          clear hp HPF
          go_wp2_with (at_builtin; refine wpList_append_any rfl (.tmp 23) (.tmp 25) 35 35 rfl _ _ rfl rfl _ HA.out ?_; intro v1 w1 hc1; obtain ⟨A1, c1, rfl, HC1⟩ := hc1)
          have HS3 : Hid (AloneS w1 V.heap.size F x.os (k + 1) A1 (l.length + 1) c1 (l ++ [⟨some ⟨rg, 0, none⟩, 1, 1, [a0]⟩])) := by
            have h := HS2.out.put HO.out HF1.out rfl rfl HR2.out HC1.out.2.2.1 HC1.out.1
            rw [show (l ++ [(⟨some ⟨rg, 0, none⟩, 1, 1, [a0]⟩ : Rw)]).length = l.length + 1 from by simp] at h
            exact h
          have HB3 := Lib.hid (HB2.out.trans HC1.out.2.1)
          go_roundg gk
          case measure => omega
          case rel => exact ⟨k + 1, A1, _, c1, _, _, rfl, by omega, by first | rfl | go_num, rfl, HB3.out, HS3.out⟩
    · have hk : k = x.m := by omega
      subst hk
      obtain ⟨A', c', e, h1, h2, h3, h4⟩ := HS.out.own.row (fun r hr => (HS.out.ok r hr).1)
      injection e with e1 e2 e3
      subst e1 e3
      have HL := Lib.hid HS.out.len
      have HC := Lib.hid (sort_rows 63 enters_cmp1 cf1 swo1 (fun r => r.m = 1) cmps1 A n c l W V.heap.size HB.out.size HL.out (by have := HS.out.le; have := HM12.out; omega) h3 (fun r hr => (HS.out.ok r hr).2))
      have H1 := Lib.hid h1
      have H2 := Lib.hid h2
      have H4 := Lib.hid h4
      clear h1 h2 h3 h4 e2
      go_wp2_with fail
      with_reducible refine HC.out.mono ?_
      rintro e w2 ⟨rfl, h5⟩
      go_wp2
      go_ret
      obtain ⟨l', hp, hs, hr, hb, _⟩ := h5.out
      have heq : sts l = Sv.aloneL x.N x.D x.T x.os x.ts := by
        rw [HS.out.eq, List.take_of_length_le (by rw [HML.out]; exact Nat.le_refl _), ← HF.out]
        rfl
      have hperm : (sts l').Perm (Sv.aloneL x.N x.D x.T x.os x.ts) := by rw [← heq]; exact hp.map _
      have hsz := HB0.out.size
      refine ⟨A, n, c, l', rfl, HB0.out.trans ((HB.out.trans hb).mono hsz), Nat.lt_of_lt_of_le HVS.out (HB.out.trans hb).size, hr.mono hsz, by rw [hp.length_eq]; exact HL.out, by rw [← HL.out]; exact H1.out, H2.out, ?_, hperm, ?_⟩
      · rcases H4.out with h | ⟨g, cs, h, h6, h7⟩
        · exact .inl h
        · exact .inr ⟨g, h, Nat.le_trans hsz h6, Nat.lt_of_lt_of_le h7.lt hb.size⟩
      · refine ((Sv.alone_rws (Rt.ok_of HW.out).ou).perm hperm.symm).rise ?_
        unfold sts
        rw [List.pairwise_map]
        refine hs.imp ?_
        intro a b h
        have := cf1_iff b.st a.st
        omega
end Go.Proofs.YtjidelfpmlnhkaaGreat
