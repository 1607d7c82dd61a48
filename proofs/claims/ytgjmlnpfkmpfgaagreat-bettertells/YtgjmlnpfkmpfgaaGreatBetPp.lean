/- Package better: firstBetter. -/
import Derived.Test.YtgjmlnpfkmpfgaaGreatBetPn
namespace Go.Proofs.YtgjmlnpfkmpfgaaGreat
open Go.RowKit Go.Shelf
set_option linter.unusedVariables false
set_option maxRecDepth 100000
attribute [local go_sem] Oper.semAt_some

/-- whether routes a are a better plan than routes b -/
def betB (x : Wd) (a b : List Pl.Ro) : Bool := Pl.lessB (Pl.checkS x.N x.D x.T x.os x.ts a (Pl.restS x.os a)) (Pl.checkS x.N x.D x.T x.os x.ts b (Pl.restS x.os b)) (Pl.restS x.os a).length (Pl.restS x.os b).length
def mvB (x : Wd) (a : List Pl.Ro) : List (List Pl.Ro) := Bt.movesL a (Pl.restS x.os a) (x.ts.map Ld.T.id)

/-- firstBetter's boxes -/
structure FX (w : World) (b b1 b2 b3 b4 b5 : Nat) (x : Wd) (p : Pd) (n : Nat) (U : World) : Prop where
  bel : Below w.heap.size w U
  wx : WX U b x
  pb : Box U b1 p.cells 32
  pa : PAt U p
  nb : Box U b2 #[.int .i64 (n : Int)] 3
  r1 : Box U b3 #[.slice none 0 0, .slice none 0 0] 32
  r2 : Box U b4 #[.int .i64 0] 3
  r3 : Box U b5 #[.bool false] 4
theorem FX.below {w U W : World} {b b1 b2 b3 b4 b5 n : Nat} {x : Wd} {p : Pd} (h : FX w b b1 b2 b3 b4 b5 x p n U) (hb : Below U.heap.size U W) : FX w b b1 b2 b3 b4 b5 x p n W :=
  ⟨below_next h.bel hb, h.wx.below hb, h.pb.below hb, h.pa.below hb, h.nb.below hb, h.r1.below hb, h.r2.below hb, h.r3.below hb⟩
/-- what is told -/
def FirstPost (w : World) (x : Wd) (p : Pd) (n : Nat) (e : Ending) (w' : World) : Prop :=
  (∃ t, Bt.fbS (fun q => betB x q (ros p.rs)) n (mvB x (ros p.rs)) = (none, t) ∧ e = .returned (.tuple #[.agg #[.slice none 0 0, .slice none 0 0], .int .i64 (t : Int), .bool false]) ∧ Hid (Below w.heap.size w w')) ∨
  (∃ (q : Pd) (t : Nat), Bt.fbS (fun q => betB x q (ros p.rs)) n (mvB x (ros p.rs)) = (some (ros q.rs), t) ∧ e = .returned (.tuple #[.agg #[.slice q.rA q.rm q.rc, .slice q.uA q.um q.uc], .int .i64 (t : Int), .bool true]) ∧ Hid (Below w.heap.size w w' ∧ PlOwn w.heap.size w' q ∧ q.us = Pl.restS x.os (ros q.rs) ∧ ∀ r ∈ q.rs, r.sm ≤ r.sc))

theorem six_boxes (w : World) (x : Wd) (p : Pd) (n : Nat) (hx : WAt w x) (hp : PAt w p) : FX w w.heap.size (w.heap.size + 1) (w.heap.size + 1 + 1) (w.heap.size + 1 + 1 + 1) (w.heap.size + 1 + 1 + 1 + 1) (w.heap.size + 1 + 1 + 1 + 1 + 1) x p n ((((((w.alloc (.cells #[.int .i64 x.N, .slice x.dA x.dm x.dc, .slice x.tA x.tm x.tc, .slice x.A x.m x.c, .slice x.B x.k x.d] 28)).alloc (.cells #[.slice p.rA p.rm p.rc, .slice p.uA p.um p.uc] 32)).alloc (.cells #[.int .i64 (n : Int)] 3)).alloc (.cells #[.slice none 0 0, .slice none 0 0] 32)).alloc (.cells #[.int .i64 0] 3)).alloc (.cells #[.bool false] 4)) := by
  have q1 := (WX.new hx)
  generalize hw1 : w.alloc (.cells #[.int .i64 x.N, .slice x.dA x.dm x.dc, .slice x.tA x.tm x.tc, .slice x.A x.m x.c, .slice x.B x.k x.d] 28) = w1 at *
  have b1 : Below w.heap.size w w1 := by rw [← hw1]; exact below_alloc _ _
  have s1 : w1.heap.size = w.heap.size + 1 := by rw [← hw1]; simp
  have q2 := Box.new w1 #[.slice p.rA p.rm p.rc, .slice p.uA p.um p.uc] 32
  generalize hw2 : w1.alloc (.cells #[.slice p.rA p.rm p.rc, .slice p.uA p.um p.uc] 32) = w2 at *
  have b2 : Below w1.heap.size w1 w2 := by rw [← hw2]; exact below_alloc _ _
  have s2 : w2.heap.size = w.heap.size + 1 + 1 := by rw [← s1, ← hw2]; simp
  have q3 := Box.new w2 #[.int .i64 (n : Int)] 3
  generalize hw3 : w2.alloc (.cells #[.int .i64 (n : Int)] 3) = w3 at *
  have b3 : Below w2.heap.size w2 w3 := by rw [← hw3]; exact below_alloc _ _
  have s3 : w3.heap.size = w.heap.size + 1 + 1 + 1 := by rw [← s2, ← hw3]; simp
  have q4 := Box.new w3 #[.slice none 0 0, .slice none 0 0] 32
  generalize hw4 : w3.alloc (.cells #[.slice none 0 0, .slice none 0 0] 32) = w4 at *
  have b4 : Below w3.heap.size w3 w4 := by rw [← hw4]; exact below_alloc _ _
  have s4 : w4.heap.size = w.heap.size + 1 + 1 + 1 + 1 := by rw [← s3, ← hw4]; simp
  have q5 := Box.new w4 #[.int .i64 0] 3
  generalize hw5 : w4.alloc (.cells #[.int .i64 0] 3) = w5 at *
  have b5 : Below w4.heap.size w4 w5 := by rw [← hw5]; exact below_alloc _ _
  have s5 : w5.heap.size = w.heap.size + 1 + 1 + 1 + 1 + 1 := by rw [← s4, ← hw5]; simp
  have q6 := Box.new w5 #[.bool false] 4
  have b6 := below_alloc w5 (.cells #[.bool false] 4)
  rw [s1] at q2
  rw [s2] at q3
  rw [s3] at q4
  rw [s4] at q5
  rw [s5] at q6
  have hb := below_next (below_next (below_next (below_next (below_next b1 b2) b3) b4) b5) b6
  exact ⟨hb, ((((q1.below b2).below b3).below b4).below b5).below b6, (((q2.below b3).below b4).below b5).below b6, hp.below hb, ((q3.below b4).below b5).below b6, (q4.below b5).below b6, q5.below b6, q6⟩

theorem below_rows {w W W' : World} {row : Option Nat} {B : Nat} (hB : w.heap.size ≤ B) (h : Below w.heap.size w W) (hg : W.grownBy W' row) (hr : ∀ r, row = some r → B ≤ r ∧ ∃ o : Obj, W.heap[r]? = some o ∧ o.isCells = false) : Below w.heap.size w W' :=
  ⟨hg.os.trans h.os, hg.tape.trans h.tape, hg.output.trans h.output, Nat.le_trans h.size hg.size, fun k hk => (hg.block k (Nat.lt_of_lt_of_le hk h.size) (fun e => by have := (hr k e.symm).1; omega)).trans (h.block k hk)⟩
theorem PlOwn.grown {B : Nat} {W W' : World} {row : Option Nat} {q : Pd} (h : PlOwn B W q) (hg : W.grownBy W' row) (hr : ∀ r, row = some r → ∃ o : Obj, W.heap[r]? = some o ∧ o.isCells = false) : PlOwn B W' q :=
  h.put fun k cs t fr _ ho _ _ _ => (hg.block k (lt_some ho) (fun e => by
    obtain ⟨o2, ho2, hc2⟩ := hr k e.symm
    rw [ho] at ho2
    obtain rfl := Option.some.inj ho2
    simp [Obj.isCells] at hc2)).trans ho
theorem PlOwn.mono {B B' : Nat} {W : World} {q : Pd} (h : PlOwn B W q) (hB : B' ≤ B) : PlOwn B' W q := ⟨h.at_, h.rr.mono hB, fun r hr => (h.st r hr).mono hB, h.u.mono hB⟩
theorem cells_kept {W W' : World} {row : Option Nat} (hg : W.grownBy W' row) (hr : ∀ r, row = some r → ∃ o : Obj, W.heap[r]? = some o ∧ o.isCells = false) {i : Nat} (h : ∃ cs t fr, W.heap[i]? = some (.cells cs t fr)) : ∃ cs t fr, W'.heap[i]? = some (.cells cs t fr) := by
  obtain ⟨cs, t, fr, ho⟩ := h
  refine ⟨cs, t, fr, (hg.block i (lt_some ho) (fun e => ?_)).trans ho⟩
  obtain ⟨o2, ho2, hc2⟩ := hr i e.symm
  rw [ho] at ho2
  obtain rfl := Option.some.inj ho2
  simp [Obj.isCells] at hc2

set_option maxHeartbeats 4000000 in
theorem first_b (x : Wd) (p : Pd) (w : World) (n : Nat) (hn : n ≤ 100000) (hmay : Pl.May x.N x.D x.T x.os x.ts (ros p.rs) p.us) (hx : WAt w x) (hp : PAt w p) (hcap : ∀ r ∈ p.rs, r.sm ≤ r.sc) :
    Calls Tryz.prog 28 #[.agg #[.int .i64 x.N, .slice x.dA x.dm x.dc, .slice x.tA x.tm x.tc, .slice x.A x.m x.c, .slice x.B x.k x.d], .agg #[.slice p.rA p.rm p.rc, .slice p.uA p.um p.uc], .int .i64 (n : Int)] w (FirstPost w x p n) := by
  have HLEN := Lib.hid (Bt.movesL_len (Bt.sm_of hmay).1 (Bt.sm_of hmay).2.1 (Bt.sm_of hmay).2.2)
  have HUS : Hid (p.us = Pl.restS x.os (ros p.rs)) := hmay.us
  have HUM : Hid ((Pl.restS x.os (ros p.rs)).length = p.um) := by unfold Hid; rw [← hmay.us]; exact hp.ul
  have HPL := Lib.hid (pls_of hmay hp hcap)
  have HFX := Lib.hid (six_boxes w x p n hx hp)
  clear hmay hx hp hcap
  refine (callsIn_wide (n := 0)).1 ?_
  refine callsIn_of_wp_marks Tryz.func28 rfl trivial ?_ rfl
  simp only [Tryz.ntmps28, List.size_toArray, List.length_cons, List.length_nil, Nat.reduceAdd, Nat.reduceSub, Array.replicate_succ, Array.replicate_zero, List.push_toArray, List.append_toArray, List.nil_append, List.cons_append]
  gi_wp2
  have HSZ : Hid (((((((w.alloc (.cells #[.int .i64 x.N, .slice x.dA x.dm x.dc, .slice x.tA x.tm x.tc, .slice x.A x.m x.c, .slice x.B x.k x.d] 28)).alloc (.cells #[.slice p.rA p.rm p.rc, .slice p.uA p.um p.uc] 32)).alloc (.cells #[.int .i64 (n : Int)] 3)).alloc (.cells #[.slice none 0 0, .slice none 0 0] 32)).alloc (.cells #[.int .i64 0] 3)).alloc (.cells #[.bool false] 4)).heap.size = w.heap.size + 1 + 1 + 1 + 1 + 1 + 1) := by unfold Hid; simp
  generalize ((((((w.alloc (.cells #[.int .i64 x.N, .slice x.dA x.dm x.dc, .slice x.tA x.tm x.tc, .slice x.A x.m x.c, .slice x.B x.k x.d] 28)).alloc (.cells #[.slice p.rA p.rm p.rc, .slice p.uA p.um p.uc] 32)).alloc (.cells #[.int .i64 (n : Int)] 3)).alloc (.cells #[.slice none 0 0, .slice none 0 0] 32)).alloc (.cells #[.int .i64 0] 3)).alloc (.cells #[.bool false] 4)) = V6 at *
  have HN : Hid (w.heap.size + 1 + 1 + 1 + 1 + 1 < w.heap.size + 1 + 1 + 1 + 1 + 1 + 1 ∧ w.heap.size + 1 + 1 + 1 < w.heap.size + 1 + 1 + 1 + 1 ∧ w.heap.size + 1 + 1 + 1 + 1 < w.heap.size + 1 + 1 + 1 + 1 + 1 ∧ w.heap.size ≤ w.heap.size + 1 + 1 + 1) := by unfold Hid; omega
  generalize w.heap.size + 1 + 1 + 1 + 1 + 1 + 1 = sb at *
  generalize w.heap.size + 1 + 1 + 1 + 1 + 1 = b5 at *
  generalize w.heap.size + 1 + 1 + 1 + 1 = b4 at *
  generalize w.heap.size + 1 + 1 + 1 = b3 at *
  generalize w.heap.size + 1 + 1 = b2 at *
  generalize w.heap.size + 1 = b1 at *
  have hst := stay_start (w := V6) (v := .int .i64 0) (T := 3) rfl (P := fun U => FX w w.heap.size b1 b2 b3 b4 b5 x p n U ∧ PlS U p) fun W' hb => ⟨HFX.out.below hb, pls_below (pls_below HPL.out HFX.out.bel) hb⟩
  have hbs := Box.new V6 #[.int .i64 0] 3
  rw [HSZ.out] at hst hbs
  generalize hV : V6.alloc (.cells #[.int .i64 0] 3) = V at *
  have HVS : Hid (sb < V.heap.size) := hbs.lt
  have HST := Lib.hid hst
  have HBS := Lib.hid hbs
  have HKA : Hid (MnOk sb V) := mnok_int hbs rfl
  clear hst hbs hV HFX HPL
  refine ⟨trivial, rfl, (callsIn_wide.2 (tries_b x p V)).mono ?_⟩
  rintro en w2 ⟨rfl, rfl⟩
  have ha1 : Below V.heap.size V (V.alloc (.cells #[.int .i64 x.N, .slice x.dA x.dm x.dc, .slice x.tA x.tm x.tc, .slice x.A x.m x.c, .slice x.B x.k x.d] 28)) := below_alloc _ _
  have hk1 := HKA.out.below ha1
  have e1 := stay_new HKA.out #[.int .i64 x.N, .slice x.dA x.dm x.dc, .slice x.tA x.tm x.tc, .slice x.A x.m x.c, .slice x.B x.k x.d] 28
  have e2 := stay_new hk1 #[.slice p.rA p.rm p.rc, .slice p.uA p.um p.uc] 32
  have ha2 := below_alloc (V.alloc (.cells #[.int .i64 x.N, .slice x.dA x.dm x.dc, .slice x.tA x.tm x.tc, .slice x.A x.m x.c, .slice x.B x.k x.d] 28)) (.cells #[.slice p.rA p.rm p.rc, .slice p.uA p.um p.uc] 32)
  rw [show (V.alloc (.cells #[.int .i64 x.N, .slice x.dA x.dm x.dc, .slice x.tA x.tm x.tc, .slice x.A x.m x.c, .slice x.B x.k x.d] 28)).heap.size = V.heap.size + 1 by simp] at e2
  have HK2 : Hid (KM sb V ((V.alloc (.cells #[.int .i64 x.N, .slice x.dA x.dm x.dc, .slice x.tA x.tm x.tc, .slice x.A x.m x.c, .slice x.B x.k x.d] 28)).alloc (.cells #[.slice p.rA p.rm p.rc, .slice p.uA p.um p.uc] 32))) := (KM.below HKA.out ha1).trans (KM.below hk1 ha2)
  have HB2 : Hid (Below V.heap.size V ((V.alloc (.cells #[.int .i64 x.N, .slice x.dA x.dm x.dc, .slice x.tA x.tm x.tc, .slice x.A x.m x.c, .slice x.B x.k x.d] 28)).alloc (.cells #[.slice p.rA p.rm p.rc, .slice p.uA p.um p.uc] 32))) := below_next ha1 ha2
  have hnd : Stay sb ((V.alloc (.cells #[.int .i64 x.N, .slice x.dA x.dm x.dc, .slice x.tA x.tm x.tc, .slice x.A x.m x.c, .slice x.B x.k x.d] 28)).alloc (.cells #[.slice p.rA p.rm p.rc, .slice p.uA p.um p.uc] 32)) fun U => Box U (V.heap.size + 1) p.cells 32 ∧ PlS U p ∧ WX U V.heap.size x := fun U hU => by
    have h := HST.out.step HK2.out U hU
    exact ⟨e2 U hU, h.2, e1 U ((KM.below hk1 ha2).trans hU), h.1.wx.at_⟩
  clear ha1 hk1 e1 e2 ha2
  generalize (V.alloc (.cells #[.int .i64 x.N, .slice x.dA x.dm x.dc, .slice x.tA x.tm x.tc, .slice x.A x.m x.c, .slice x.B x.k x.d] 28)).alloc (.cells #[.slice p.rA p.rm p.rc, .slice p.uA p.um p.uc] 32) = w2 at *
  have HWS : Hid (w.heap.size ≤ w2.heap.size) := Nat.le_trans HST.out.now.1.bel.size HK2.out.size
  have HG := Lib.hid (tri1_b sb (V.heap.size + 1) V.heap.size V.heap.size p x w2 HB2.out.size hnd)
  clear hnd
  rw [HUS.out] at HG
  gi_wp2
  refine range_box (sb := sb) (gf := 43) (lv := #[.pointer (some ⟨V.heap.size + 1, 0, none⟩), .pointer (some ⟨V.heap.size, 0, none⟩)]) rfl (enters_of Tryz.func43 (by kernel_rfl) rfl) (pv_own sb V.heap.size x.os) HG.out (KM.refl sb w2) (fun y v U h => by obtain ⟨q, rfl, _⟩ := h; exact ⟨_, _, _, _, _, _, rfl⟩)
    (fun k U => Box U sb #[.int .i64 (k : Int)] 3 ∧ Bt.FbAt (fun q => betB x q (ros p.rs)) n (mvB x (ros p.rs)) k ∧ (Below w.heap.size w U ∧ V.heap.size ≤ U.heap.size) ∧ Box U b3 #[.slice none 0 0, .slice none 0 0] 32 ∧ Box U b4 #[.int .i64 0] 3 ∧ Box U b5 #[.bool false] 4)
    (fun c U => (c = .exit 0 ∧ ∃ t : Nat, Box U sb #[.int .i64 (t : Int)] 3 ∧ Bt.fbS (fun q => betB x q (ros p.rs)) n (mvB x (ros p.rs)) = (none, t) ∧ Below w.heap.size w U ∧ Box U b3 #[.slice none 0 0, .slice none 0 0] 32 ∧ Box U b4 #[.int .i64 0] 3 ∧ Box U b5 #[.bool false] 4) ∨
      (c = .ret ∧ ∃ (q : Pd) (t : Nat), Bt.fbS (fun q => betB x q (ros p.rs)) n (mvB x (ros p.rs)) = (some (ros q.rs), t) ∧ Box U b3 q.cells 32 ∧ Box U b4 #[.int .i64 (t : Int)] 3 ∧ Box U b5 #[.bool true] 4 ∧ Below w.heap.size w U ∧ PlOwn V.heap.size U q ∧ q.us = Pl.restS x.os (ros q.rs) ∧ ∀ r ∈ q.rs, r.sm ≤ r.sc))
    (fun k A B row h hg hr => by
      have hr' : ∀ r, row = some r → ∃ o : Obj, A.heap[r]? = some o ∧ o.isCells = false := fun r e => (hr r e).2
      exact ⟨box_kept hg hr' h.1, h.2.1, ⟨below_rows HWS.out h.2.2.1.1 hg hr, Nat.le_trans h.2.2.1.2 hg.size⟩, box_kept hg hr' h.2.2.2.1, box_kept hg hr' h.2.2.2.2.1, box_kept hg hr' h.2.2.2.2.2⟩)
    (fun c _ A B row h hg hr => by
      have hr' : ∀ r, row = some r → ∃ o : Obj, A.heap[r]? = some o ∧ o.isCells = false := fun r e => (hr r e).2
      rcases h with ⟨e, t, h1, h2, h3, h4, h5, h6⟩ | ⟨e, q, t, h1, h2, h3, h4, h5, h6, h7, h8⟩
      · exact .inl ⟨e, t, box_kept hg hr' h1, h2, below_rows HWS.out h3 hg hr, box_kept hg hr' h4, box_kept hg hr' h5, box_kept hg hr' h6⟩
      · exact .inr ⟨e, q, t, h1, box_kept hg hr' h2, box_kept hg hr' h3, box_kept hg hr' h4, below_rows HWS.out h5 hg hr, h6.grown hg hr', h7, h8⟩)
    (fun k U h => mnok_int h.1 rfl)
    ⟨HBS.out.below HB2.out, Bt.FbAt.start _ _, ⟨below_next HST.out.now.1.bel HB2.out, HB2.out.size⟩, HST.out.now.1.r1.below HB2.out, HST.out.now.1.r2.below HB2.out, HST.out.now.1.r3.below HB2.out⟩
    V.heap.size (fun k U h => h.2.2.1.2) 32 (fun v b T => (T.setIfInBounds 14 v).setIfInBounds 10 (.pointer (some ⟨b, 0, none⟩))) ?assign ?body ?done ?stop
  case assign =>
    intro l A1 m1 c1 A2 m2 c2 U K hK
    gi_wp2
    simpa using hK
  case body =>
    rintro l k y A1 m1 c1 A2 m2 c2 qb U hx ⟨h1, h2, ⟨h3, h3s⟩, h4, h5, h6⟩ hkm ⟨q, hqe, hsb, hst, hro, hus, hcap⟩ hqV hqb
    injection hqe with hqe
    have e0 := congrArg (fun a : Array Value => a[0]?) hqe
    have e1 := congrArg (fun a : Array Value => a[1]?) hqe
    simp at e0 e1
    obtain ⟨rfl, rfl, rfl⟩ := e0
    obtain ⟨rfl, rfl, rfl⟩ := e1
    clear hqe
    have HFU := Lib.hid (HST.out.step (HK2.out.trans hkm)).now
    have HB1 := Lib.hid h1
    have HFB := Lib.hid h2
    have x0 : U.cell? ⟨sb, 0, none⟩ = some (.int .i64 (k : Int)) := ints_row h1
    have x1 : U.cell? ⟨b2, 0, none⟩ = some (.int .i64 (n : Int)) := ints_row HFU.out.1.nb
    by_cases hkn : k = n
    · have d1 : ((k : Int) == (n : Int)) = true := by rw [beq_iff_eq]; omega
      have HQ : Hid (BPost w2.heap.size sb (fun k U => Box U sb #[.int .i64 (k : Int)] 3 ∧ Bt.FbAt (fun q => betB x q (ros p.rs)) n (mvB x (ros p.rs)) k ∧ (Below w.heap.size w U ∧ V.heap.size ≤ U.heap.size) ∧ Box U b3 #[.slice none 0 0, .slice none 0 0] 32 ∧ Box U b4 #[.int .i64 0] 3 ∧ Box U b5 #[.bool false] 4)
          (fun c U => (c = .exit 0 ∧ ∃ t : Nat, Box U sb #[.int .i64 (t : Int)] 3 ∧ Bt.fbS (fun q => betB x q (ros p.rs)) n (mvB x (ros p.rs)) = (none, t) ∧ Below w.heap.size w U ∧ Box U b3 #[.slice none 0 0, .slice none 0 0] 32 ∧ Box U b4 #[.int .i64 0] 3 ∧ Box U b5 #[.bool false] 4) ∨
            (c = .ret ∧ ∃ (q : Pd) (t : Nat), Bt.fbS (fun q => betB x q (ros p.rs)) n (mvB x (ros p.rs)) = (some (ros q.rs), t) ∧ Box U b3 q.cells 32 ∧ Box U b4 #[.int .i64 (t : Int)] 3 ∧ Box U b5 #[.bool true] 4 ∧ Below w.heap.size w U ∧ PlOwn V.heap.size U q ∧ q.us = Pl.restS x.os (ros q.rs) ∧ ∀ r ∈ q.rs, r.sm ≤ r.sc)) (k + 1) U (.exit 0) ⟨#[], []⟩ U) :=
        ⟨⟨Nat.le_refl _, fun _ _ _ h _ => h⟩, .inl ⟨rfl, k, h1, by subst hkn; exact h2.full, h3, h4, h5, h6⟩⟩
      clear h1 h2 h3 h3s h4 h5 h6 hkm hsb hst hro hus hcap hqb hx
      gi_wp2
      exact HQ.out
    · have d1 : ((k : Int) == (n : Int)) = false := by rw [beq_eq_false_iff_ne]; omega
      have hkn2 : k < n := by have := h2.le; omega
      have wr1 : IntKind.i64.wrap ((k : Int) + 1) = (k : Int) + 1 := IntWalk.i64_in _ (by omega)
      have f0 : U.frozen? ⟨sb, 0, none⟩ = false := h1.fz 0
      have hne : qb ≠ sb := by have := HVS.out; omega
      have HNE : Hid (qb ≠ b3 ∧ qb ≠ b4 ∧ qb ≠ b5 ∧ V.heap.size ≤ U.heap.size) := by have := HVS.out; have := HN.out; unfold Hid; omega
      have hkm1 : KM sb U (U.setCell ⟨sb, 0, none⟩ (.int .i64 ((k : Int) + 1))) := km_set h1 rfl
      have HBU1 : Hid (Box (U.setCell ⟨sb, 0, none⟩ (.int .i64 ((k : Int) + 1))) sb #[.int .i64 ((k : Int) + 1)] 3) := h1.set 0 _ _ rfl
      have HQU1 : Hid (Box (U.setCell ⟨sb, 0, none⟩ (.int .i64 ((k : Int) + 1))) qb #[.slice q.rA q.rm q.rc, .slice q.uA q.um q.uc] 32) := (Go.Deep.blk_setCell_other _ _ _ _ hne).trans hqb
      have HF1 := Lib.hid (HST.out.step (HK2.out.trans (hkm.trans hkm1))).now
      have HP1 := Lib.hid (hst.step hkm1.kc).now
      have HKM1 := Lib.hid hkm1
      have HX := Lib.hid hx
      obtain ⟨r, hr⟩ : ∃ r, betB x y (ros p.rs) = r := ⟨_, rfl⟩
      have HR := Lib.hid hr
      have HRO := Lib.hid hro
      have HUS2 := Lib.hid hus
      have HCAP := Lib.hid hcap
      have HLS := Lib.hid (less_b x q p (U.setCell ⟨sb, 0, none⟩ (.int .i64 ((k : Int) + 1))) r (by
        rw [← hr, hro, hus, ← HP1.out.at_.ul, ← HF1.out.1.pa.ul, hus, HUS.out]; rfl) HF1.out.1.wx.at_ HP1.out.at_ HF1.out.1.pa)
      have HMK0 : Hid (MnOk sb (U.setCell ⟨sb, 0, none⟩ (.int .i64 ((k : Int) + 1)))) := mnok_int HBU1.out rfl
      clear h1 h2 h3 h3s h4 h5 h6 hkm hsb hst hro hus hcap hqb hx hkm1 hr
      generalize hU1 : U.setCell ⟨sb, 0, none⟩ (.int .i64 ((k : Int) + 1)) = U1 at *
      have HU1 := Lib.hid hU1
      have y0 := HF1.out.1.wx.c0
      have y1 := HF1.out.1.wx.c1
      have y2 := HF1.out.1.wx.c2
      have y3 := HF1.out.1.wx.c3
      have y4 := HF1.out.1.wx.c4
      have y5 : U1.cell? ⟨b1, 0, none⟩ = some (.slice p.rA p.rm p.rc) := HF1.out.1.pb.cell 0 _ rfl
      have y6 : U1.cell? ⟨b1, 1, none⟩ = some (.slice p.uA p.um p.uc) := HF1.out.1.pb.cell 1 _ rfl
      have y7 : U1.cell? ⟨qb, 0, none⟩ = some (.slice q.rA q.rm q.rc) := HQU1.out.cell 0 _ rfl
      have y8 : U1.cell? ⟨qb, 1, none⟩ = some (.slice q.uA q.um q.uc) := HQU1.out.cell 1 _ rfl
      gi_wp2
      refine ⟨trivial, rfl, (CallsIn.inRound l (callsIn_wide.2 HLS.out)).mono ?_⟩
      rintro en w4 ⟨rfl, hb4⟩
      have HF4 := Lib.hid (HF1.out.1.below hb4.out)
      have HKM4 : Hid (KM sb U w4) := HKM1.out.trans (KM.below HMK0.out hb4.out)
      have HS4 := Lib.hid (HBU1.out.below hb4.out)
      have HQ4 := Lib.hid (HQU1.out.below hb4.out)
      clear y0 y1 y2 y3 y4 y5 y6 y7 y8 x0 x1 f0 HLS
      cases r with
      | false =>
        have HFN := Lib.hid (HFB.out.no hkn2 HX.out HR.out)
        gi_wp2
        exact ⟨HKM4.out, HS4.out, HFN.out, ⟨HF4.out.bel, Nat.le_trans HNE.out.2.2.2 HKM4.out.size⟩, HF4.out.r1, HF4.out.r2, HF4.out.r3⟩
      | true =>
        have HFN : Hid (Bt.fbS (fun q => betB x q (ros p.rs)) n (mvB x (ros p.rs)) = (some (ros q.rs), k + 1)) := by rw [HRO.out]; exact HFB.out.yes hkn2 HX.out HR.out
        have HP4 : Hid (PlOwn V.heap.size w4 q) := HP1.out.put fun i cs t fr _ ho _ _ _ => (hb4.out.block i (lt_some ho)).trans ho
        have z0 : w4.cell? ⟨qb, 0, none⟩ = some (.slice q.rA q.rm q.rc) := HQ4.out.cell 0 _ rfl
        have z1 : w4.cell? ⟨qb, 1, none⟩ = some (.slice q.uA q.um q.uc) := HQ4.out.cell 1 _ rfl
        have z2 : w4.cell? ⟨sb, 0, none⟩ = some (.int .i64 ((k : Int) + 1)) := ints_row HS4.out
        have z3 : w4.cell? ⟨b3, 0, none⟩ = some (.slice none 0 0) := HF4.out.r1.cell 0 _ rfl
        have z4 : w4.cell? ⟨b3, 1, none⟩ = some (.slice none 0 0) := HF4.out.r1.cell 1 _ rfl
        have z5 : w4.cell? ⟨b4, 0, none⟩ = some (.int .i64 0) := HF4.out.r2.cell 0 _ rfl
        have z6 : w4.cell? ⟨b5, 0, none⟩ = some (.bool false) := HF4.out.r3.cell 0 _ rfl
        have g3 : w4.frozen? ⟨b3, 0, none⟩ = false := HF4.out.r1.fz 0
        have g4 : w4.frozen? ⟨b3, 1, none⟩ = false := HF4.out.r1.fz 1
        have g5 : w4.frozen? ⟨b4, 0, none⟩ = false := HF4.out.r2.fz 0
        have g6 : w4.frozen? ⟨b5, 0, none⟩ = false := HF4.out.r3.fz 0
        have HSA : Hid (w4.cell? ⟨qb, 0, none⟩ = some (.slice q.rA q.rm q.rc) ∧ w4.cell? ⟨qb, 1, none⟩ = some (.slice q.uA q.um q.uc) ∧ w4.cell? ⟨sb, 0, none⟩ = some (.int .i64 ((k : Int) + 1))) := ⟨z0, z1, z2⟩
        have hk6 : ∀ i, i ≠ b3 → ((w4.setCell ⟨b3, 0, none⟩ (.slice q.rA q.rm q.rc)).setCell ⟨b3, 1, none⟩ (.slice q.uA q.um q.uc)).heap[i]? = w4.heap[i]? := fun i hi => but_set2 w4 b3 _ _ i hi
        have hs3 : sb ≠ b3 := by have := HN.out; omega
        have HSB : Hid (((w4.setCell ⟨b3, 0, none⟩ (.slice q.rA q.rm q.rc)).setCell ⟨b3, 1, none⟩ (.slice q.uA q.um q.uc)).cell? ⟨qb, 0, none⟩ = some (.slice q.rA q.rm q.rc) ∧ ((w4.setCell ⟨b3, 0, none⟩ (.slice q.rA q.rm q.rc)).setCell ⟨b3, 1, none⟩ (.slice q.uA q.um q.uc)).cell? ⟨qb, 1, none⟩ = some (.slice q.uA q.um q.uc) ∧ ((w4.setCell ⟨b3, 0, none⟩ (.slice q.rA q.rm q.rc)).setCell ⟨b3, 1, none⟩ (.slice q.uA q.um q.uc)).cell? ⟨sb, 0, none⟩ = some (.int .i64 ((k : Int) + 1))) :=
          ⟨Box.cell (t := 32) ((hk6 qb HNE.out.1).trans HQ4.out) 0 _ rfl, Box.cell (t := 32) ((hk6 qb HNE.out.1).trans HQ4.out) 1 _ rfl, Box.cell (t := 3) ((hk6 sb hs3).trans HS4.out) 0 _ rfl⟩
        have HKO : Hid (KeepsOthers U w4) := by
          have e1 : KeepsOthers U U1 := by rw [← HU1.out]; exact KeepsOthers.setCell _ _ _
          exact e1.trans ⟨hb4.out.size, fun i o ho _ => (hb4.out.block i (lt_some ho)).trans ho⟩
        have HKO6 : Hid (KeepsOthers U ((w4.setCell ⟨b3, 0, none⟩ (.slice q.rA q.rm q.rc)).setCell ⟨b3, 1, none⟩ (.slice q.uA q.um q.uc)).drew) := ((HKO.out.trans (KeepsOthers.setCell _ _ _)).trans (KeepsOthers.setCell _ _ _)).trans (KeepsOthers.drew _)
        have HX3 : Hid (Box ((w4.setCell ⟨b3, 0, none⟩ (.slice q.rA q.rm q.rc)).setCell ⟨b3, 1, none⟩ (.slice q.uA q.um q.uc)).drew b3 q.cells 32) := plan_set HF4.out.r1 _ _
        have HX4 : Hid (Box ((w4.setCell ⟨b3, 0, none⟩ (.slice q.rA q.rm q.rc)).setCell ⟨b3, 1, none⟩ (.slice q.uA q.um q.uc)).drew b4 #[.int .i64 0] 3) := (hk6 b4 (by have := HN.out; omega)).trans HF4.out.r2
        have HX5 : Hid (Box ((w4.setCell ⟨b3, 0, none⟩ (.slice q.rA q.rm q.rc)).setCell ⟨b3, 1, none⟩ (.slice q.uA q.um q.uc)).drew b5 #[.bool false] 4) := (hk6 b5 (by have := HN.out; omega)).trans HF4.out.r3
        have HXB : Hid (Below w.heap.size w ((w4.setCell ⟨b3, 0, none⟩ (.slice q.rA q.rm q.rc)).setCell ⟨b3, 1, none⟩ (.slice q.uA q.um q.uc)).drew) := (below_set2 HF4.out.bel b3 HN.out.2.2.2 _ _).drew
        have HXP : Hid (PlOwn V.heap.size ((w4.setCell ⟨b3, 0, none⟩ (.slice q.rA q.rm q.rc)).setCell ⟨b3, 1, none⟩ (.slice q.uA q.um q.uc)).drew q) := HP4.out.put fun i cs t fr hi ho _ _ _ => (hk6 i (by have := HN.out; have := HVS.out; omega)).trans ho
        clear hk6 hs3
        gi_wp2
        refine region_tail (by first | exact .inl rfl | exact .inr ⟨_, rfl⟩) 3 (by kernel_rfl) (by kernel_rfl) ?_
        simp only [List.take_succ_cons, List.take_zero, List.drop_succ_cons, List.drop_zero]
        refine head_start (S := (fun U2 : World => U2.cell? ⟨qb, 0, none⟩ = some (.slice q.rA q.rm q.rc) ∧ U2.cell? ⟨qb, 1, none⟩ = some (.slice q.uA q.um q.uc) ∧ U2.cell? ⟨sb, 0, none⟩ = some (.int .i64 ((k : Int) + 1)))) (by (try dsimp only); (first | exact HSA.out | exact HSB.out)) (fun hHeld => ?_)
        refine wpAnyH_take (i := 0) (v := ?_) (by simp only [List.getElem?_toArray, List.getElem?_cons_zero]; exact rfl) (by kernel_rfl) (by kernel_rfl) (by kernel_rfl) (fun _ _ _ h => h) (Or.inl ⟨by rfl, ?_⟩) (by assumption) ?_
        rotate_left
        · intro w hSw; (try dsimp only at hSw); go_simp <;> with_reducible rfl
        try simp only [Act.put, List.setIfInBounds_toArray, List.set_cons_zero, List.set_cons_succ]
        refine wpAnyH_take (i := 1) (v := ?_) (by simp only [List.getElem?_toArray, List.getElem?_cons_succ, List.getElem?_cons_zero]; exact rfl) (by kernel_rfl) (by kernel_rfl) (by kernel_rfl) (fun _ _ _ h => h) (Or.inl ⟨by rfl, ?_⟩) (by assumption) ?_
        rotate_left
        · intro w hSw; (try dsimp only at hSw); go_simp <;> with_reducible rfl
        try simp only [Act.put, List.setIfInBounds_toArray, List.set_cons_zero, List.set_cons_succ]
        refine wpAnyH_ready (rs := [2]) (by kernel_rfl) (by simp) ?_
        refine AllReadyH.cons (by simp only [List.getElem?_toArray, List.getElem?_cons_succ, List.getElem?_cons_zero]; exact rfl) (fun K hK => ?_) AllReadyH.nil
        go_simp
        clear hHeld
        refine hK.out _ _ ?_ (fun hHeld => ?_)
        · (try dsimp only); (first | exact HSA.out | exact HSB.out)
        clear hK K
        try simp only [Act.put, List.setIfInBounds_toArray, List.set_cons_zero, List.set_cons_succ]
        refine wpAnyH_done (by kernel_rfl) ?_ _
        all_goals
          simp only [HeadQ]
          clear z0 z1 z2 z3 z4 z5 z6 g3 g4 g5 g6
          generalize ((w4.setCell ⟨b3, 0, none⟩ (.slice q.rA q.rm q.rc)).setCell ⟨b3, 1, none⟩ (.slice q.uA q.um q.uc)).drew = W6 at *
          have z5 : W6.cell? ⟨b4, 0, none⟩ = some (.int .i64 0) := ints_row HX4.out
          have g5 : W6.frozen? ⟨b4, 0, none⟩ = false := HX4.out.fz 0
          have HX7 : Hid (Box (W6.setCell ⟨b4, 0, none⟩ (.int .i64 ((k : Int) + 1))) b5 #[.bool false] 4) := (Go.Deep.blk_setCell_other _ _ _ _ (by have := HN.out; show b5 ≠ b4; omega)).trans HX5.out
          have z6 : (W6.setCell ⟨b4, 0, none⟩ (.int .i64 ((k : Int) + 1))).cell? ⟨b5, 0, none⟩ = some (.bool false) := ints_row HX7.out
          have g6 : (W6.setCell ⟨b4, 0, none⟩ (.int .i64 ((k : Int) + 1))).frozen? ⟨b5, 0, none⟩ = false := HX7.out.fz 0
          gi_wp2
          have hl : ∀ i, i ≠ b4 → i ≠ b5 → ((W6.setCell ⟨b4, 0, none⟩ (.int .i64 ((k : Int) + 1))).setCell ⟨b5, 0, none⟩ (.bool true)).heap[i]? = W6.heap[i]? := fun i h1 h2 => (Go.Deep.blk_setCell_other _ _ _ _ h2).trans (Go.Deep.blk_setCell_other _ _ _ _ h1)
          have hn := HN.out
          have hv := HVS.out
          refine ⟨((HKO6.out.trans (KeepsOthers.setCell _ _ _)).trans (KeepsOthers.setCell _ _ _)).from _, .inr ⟨rfl, q, k + 1, HFN.out, (hl b3 (by omega) (by omega)).trans HX3.out, (Go.Deep.blk_setCell_other _ _ _ _ (by show b4 ≠ b5; omega)).trans (HX4.out.set 0 _ #[.int .i64 (((k + 1 : Nat) : Int))] rfl), ?_, (HXB.out.setCell (p := ⟨b4, 0, none⟩) (by show w.heap.size ≤ b4; omega) _).setCell (p := ⟨b5, 0, none⟩) (by show w.heap.size ≤ b5; omega) _, HXP.out.put fun i cs t fr hi ho _ _ _ => (hl i (by omega) (by omega)).trans ho, ?_, HCAP.out⟩⟩
          · exact Box.set (w := W6.setCell ⟨b4, 0, none⟩ (.int .i64 ((k : Int) + 1))) ((Go.Deep.blk_setCell_other _ _ _ _ (by show b5 ≠ b4; omega)).trans HX5.out) 0 _ #[.bool true] rfl
          · rw [HRO.out]; exact HUS2.out
  case done =>
    rintro D U hD ⟨h1, h2, ⟨h3, h3s⟩, h4, h5, h6⟩ hkm hdf
    have HFN : Hid (Bt.fbS (fun q => betB x q (ros p.rs)) n (mvB x (ros p.rs)) = (none, (Bt.movesL (ros p.rs) (Pl.restS x.os (ros p.rs)) (x.ts.map Ld.T.id)).length)) := h2.done
    clear h2 h3s hkm
    generalize hLL : (Bt.movesL (ros p.rs) (Pl.restS x.os (ros p.rs)) (x.ts.map Ld.T.id)).length = tt at *
    clear hLL
    have HT : Hid (Box U sb #[.int .i64 (tt : Int)] 3) := h1
    have HX3 : Hid (Box U b3 #[.slice none 0 0, .slice none 0 0] 32) := h4
    have HX4 : Hid (Box U b4 #[.int .i64 0] 3) := h5
    have HX5 : Hid (Box U b5 #[.bool false] 4) := h6
    have HBU : Hid (Below w.heap.size w U) := h3
    have HMK : Hid (Mks w2.heap.size [{ target := .collected D, args := #[] }] U) := (Mks.nil _ _).cons hD (fun d h => by cases h) hdf
    have hk6 : ∀ i, i ≠ b3 → ((U.setCell ⟨b3, 0, none⟩ (.slice none 0 0)).setCell ⟨b3, 1, none⟩ (.slice none 0 0)).heap[i]? = U.heap[i]? := fun i hi => but_set2 U b3 _ _ i hi
    have hs3 : sb ≠ b3 := by have := HN.out; omega
    have HMK6 : Hid (Mks w2.heap.size [{ target := .collected D, args := #[] }] ((U.setCell ⟨b3, 0, none⟩ (.slice none 0 0)).setCell ⟨b3, 1, none⟩ (.slice none 0 0)).drew) := HMK.out.keep fun D' h1 h2 => (hk6 D' (by have := HN.out; have := HVS.out; have := HB2.out.size; omega)).trans h2
    have HX6 : Hid (Box ((U.setCell ⟨b3, 0, none⟩ (.slice none 0 0)).setCell ⟨b3, 1, none⟩ (.slice none 0 0)).drew b3 #[.slice none 0 0, .slice none 0 0] 32) := plan_set HX3.out _ _
    have HX7 : Hid (Box ((U.setCell ⟨b3, 0, none⟩ (.slice none 0 0)).setCell ⟨b3, 1, none⟩ (.slice none 0 0)).drew b4 #[.int .i64 0] 3) := (hk6 b4 (by have := HN.out; omega)).trans HX4.out
    have HX8 : Hid (Box ((U.setCell ⟨b3, 0, none⟩ (.slice none 0 0)).setCell ⟨b3, 1, none⟩ (.slice none 0 0)).drew b5 #[.bool false] 4) := (hk6 b5 (by have := HN.out; omega)).trans HX5.out
    have HX9 : Hid (((U.setCell ⟨b3, 0, none⟩ (.slice none 0 0)).setCell ⟨b3, 1, none⟩ (.slice none 0 0)).cell? ⟨sb, 0, none⟩ = some (.int .i64 (tt : Int))) := Box.cell (t := 3) ((hk6 sb hs3).trans HT.out) 0 _ rfl
    have HB6 : Hid (Below w.heap.size w ((U.setCell ⟨b3, 0, none⟩ (.slice none 0 0)).setCell ⟨b3, 1, none⟩ (.slice none 0 0)).drew) := (below_set2 HBU.out b3 HN.out.2.2.2 _ _).drew
    have HX0 : Hid (U.cell? ⟨sb, 0, none⟩ = some (.int .i64 (tt : Int))) := ints_row HT.out
    have z2 : U.cell? ⟨sb, 0, none⟩ = some (.int .i64 (tt : Int)) := ints_row HT.out
    have z3 : U.cell? ⟨b3, 0, none⟩ = some (.slice none 0 0) := HX3.out.cell 0 _ rfl
    have z4 : U.cell? ⟨b3, 1, none⟩ = some (.slice none 0 0) := HX3.out.cell 1 _ rfl
    have g3 : U.frozen? ⟨b3, 0, none⟩ = false := HX3.out.fz 0
    have g4 : U.frozen? ⟨b3, 1, none⟩ = false := HX3.out.fz 1
    clear hk6 hs3 h1 h3 h4 h5 h6 hdf hD
    gi_wp2
    refine region_tail (by first | exact .inl rfl | exact .inr ⟨_, rfl⟩) 3 (by kernel_rfl) (by kernel_rfl) ?_
    simp only [List.take_succ_cons, List.take_zero, List.drop_succ_cons, List.drop_zero]
    refine head_start (S := (fun U2 : World => U2.cell? ⟨sb, 0, none⟩ = some (.int .i64 (tt : Int)))) (by (try dsimp only); (first | exact HX0.out | exact HX9.out)) (fun hHeld => ?_)
    refine wpAnyH_take (i := 0) (v := ?_) (by simp only [List.getElem?_toArray, List.getElem?_cons_zero]; exact rfl) (by kernel_rfl) (by kernel_rfl) (by kernel_rfl) (fun _ _ _ h => h) (Or.inl ⟨by rfl, ?_⟩) (by assumption) ?_
    rotate_left
    · intro w hSw; (try dsimp only at hSw); go_simp <;> with_reducible rfl
    try simp only [Act.put, List.setIfInBounds_toArray, List.set_cons_zero, List.set_cons_succ]
    refine wpAnyH_take (i := 1) (v := ?_) (by simp only [List.getElem?_toArray, List.getElem?_cons_succ, List.getElem?_cons_zero]; exact rfl) (by kernel_rfl) (by kernel_rfl) (by kernel_rfl) (fun _ _ _ h => h) (Or.inl ⟨by rfl, ?_⟩) (by assumption) ?_
    rotate_left
    · intro w hSw; (try dsimp only at hSw); go_simp <;> with_reducible rfl
    try simp only [Act.put, List.setIfInBounds_toArray, List.set_cons_zero, List.set_cons_succ]
    refine wpAnyH_ready (rs := [2]) (by kernel_rfl) (by simp) ?_
    refine AllReadyH.cons (by simp only [List.getElem?_toArray, List.getElem?_cons_succ, List.getElem?_cons_zero]; exact rfl) (fun K hK => ?_) AllReadyH.nil
    go_simp
    clear hHeld
    refine hK.out _ _ ?_ (fun hHeld => ?_)
    · (try dsimp only); (first | exact HX0.out | exact HX9.out)
    clear hK K
    try simp only [Act.put, List.setIfInBounds_toArray, List.set_cons_zero, List.set_cons_succ]
    refine wpAnyH_done (by kernel_rfl) ?_ _
    all_goals
      simp only [HeadQ]
      clear z2 z3 z4 g3 g4
      generalize ((U.setCell ⟨b3, 0, none⟩ (.slice none 0 0)).setCell ⟨b3, 1, none⟩ (.slice none 0 0)).drew = W6 at *
      have z5 : W6.cell? ⟨b4, 0, none⟩ = some (.int .i64 0) := ints_row HX7.out
      have g5 : W6.frozen? ⟨b4, 0, none⟩ = false := HX7.out.fz 0
      have HX7b : Hid (Box (W6.setCell ⟨b4, 0, none⟩ (.int .i64 (tt : Int))) b5 #[.bool false] 4) := (Go.Deep.blk_setCell_other _ _ _ _ (by have := HN.out; show b5 ≠ b4; omega)).trans HX8.out
      have z6 : (W6.setCell ⟨b4, 0, none⟩ (.int .i64 (tt : Int))).cell? ⟨b5, 0, none⟩ = some (.bool false) := ints_row HX7b.out
      have g6 : (W6.setCell ⟨b4, 0, none⟩ (.int .i64 (tt : Int))).frozen? ⟨b5, 0, none⟩ = false := HX7b.out.fz 0
      gi_wp2
      have hl : ∀ i, i ≠ b4 → i ≠ b5 → ((W6.setCell ⟨b4, 0, none⟩ (.int .i64 (tt : Int))).setCell ⟨b5, 0, none⟩ (.bool false)).heap[i]? = W6.heap[i]? := fun i h1 h2 => (Go.Deep.blk_setCell_other _ _ _ _ h2).trans (Go.Deep.blk_setCell_other _ _ _ _ h1)
      have hn := HN.out
      have hv := HVS.out
      have hw2 := HB2.out.size
      refine leaves_marks (B := w2.heap.size) (I := fun U2 => Box U2 b3 #[.slice none 0 0, .slice none 0 0] 32 ∧ Box U2 b4 #[.int .i64 (tt : Int)] 3 ∧ Box U2 b5 #[.bool false] 4 ∧ Below w.heap.size w U2) (fun s A B row h hg hr => ⟨box_kept hg (fun r e => (hr r e).2) h.1, box_kept hg (fun r e => (hr r e).2) h.2.1, box_kept hg (fun r e => (hr r e).2) h.2.2.1, below_rows HWS.out h.2.2.2 hg hr⟩)
        (fun U2 h => ⟨_, results_fb rfl _ h.1 rfl h.2.1 h.2.2.1 rfl rfl rfl, .inl ⟨tt, HFN.out, rfl, h.2.2.2⟩⟩) _ _ (HMK6.out.keep fun D' h1 h2 => (hl D' (by omega) (by omega)).trans h2)
        ⟨(hl b3 (by omega) (by omega)).trans HX6.out, (Go.Deep.blk_setCell_other _ _ _ _ (by show b4 ≠ b5; omega)).trans (HX7.out.set 0 _ _ rfl), HX7b.out.set 0 _ _ rfl, (HB6.out.setCell (p := ⟨b4, 0, none⟩) (by show w.heap.size ≤ b4; omega) _).setCell (p := ⟨b5, 0, none⟩) (by show w.heap.size ≤ b5; omega) _⟩
  case stop =>
    rintro D c U hD h hdf
    rcases h with ⟨rfl, tt, h1, h2, h3, h4, h5, h6⟩ | ⟨rfl, q, tt, h1, h2, h3, h4, h5, h6, h7, h8⟩
    · have HFN := Lib.hid h2
      clear h2
      have HT : Hid (Box U sb #[.int .i64 (tt : Int)] 3) := h1
      have HX3 : Hid (Box U b3 #[.slice none 0 0, .slice none 0 0] 32) := h4
      have HX4 : Hid (Box U b4 #[.int .i64 0] 3) := h5
      have HX5 : Hid (Box U b5 #[.bool false] 4) := h6
      have HBU : Hid (Below w.heap.size w U) := h3
      have HMK : Hid (Mks w2.heap.size [{ target := .collected D, args := #[] }] U) := (Mks.nil _ _).cons hD (fun d h => by cases h) hdf
      have hk6 : ∀ i, i ≠ b3 → ((U.setCell ⟨b3, 0, none⟩ (.slice none 0 0)).setCell ⟨b3, 1, none⟩ (.slice none 0 0)).heap[i]? = U.heap[i]? := fun i hi => but_set2 U b3 _ _ i hi
      have hs3 : sb ≠ b3 := by have := HN.out; omega
      have HMK6 : Hid (Mks w2.heap.size [{ target := .collected D, args := #[] }] ((U.setCell ⟨b3, 0, none⟩ (.slice none 0 0)).setCell ⟨b3, 1, none⟩ (.slice none 0 0)).drew) := HMK.out.keep fun D' h1 h2 => (hk6 D' (by have := HN.out; have := HVS.out; have := HB2.out.size; omega)).trans h2
      have HX6 : Hid (Box ((U.setCell ⟨b3, 0, none⟩ (.slice none 0 0)).setCell ⟨b3, 1, none⟩ (.slice none 0 0)).drew b3 #[.slice none 0 0, .slice none 0 0] 32) := plan_set HX3.out _ _
      have HX7 : Hid (Box ((U.setCell ⟨b3, 0, none⟩ (.slice none 0 0)).setCell ⟨b3, 1, none⟩ (.slice none 0 0)).drew b4 #[.int .i64 0] 3) := (hk6 b4 (by have := HN.out; omega)).trans HX4.out
      have HX8 : Hid (Box ((U.setCell ⟨b3, 0, none⟩ (.slice none 0 0)).setCell ⟨b3, 1, none⟩ (.slice none 0 0)).drew b5 #[.bool false] 4) := (hk6 b5 (by have := HN.out; omega)).trans HX5.out
      have HX9 : Hid (((U.setCell ⟨b3, 0, none⟩ (.slice none 0 0)).setCell ⟨b3, 1, none⟩ (.slice none 0 0)).cell? ⟨sb, 0, none⟩ = some (.int .i64 (tt : Int))) := Box.cell (t := 3) ((hk6 sb hs3).trans HT.out) 0 _ rfl
      have HB6 : Hid (Below w.heap.size w ((U.setCell ⟨b3, 0, none⟩ (.slice none 0 0)).setCell ⟨b3, 1, none⟩ (.slice none 0 0)).drew) := (below_set2 HBU.out b3 HN.out.2.2.2 _ _).drew
      have HX0 : Hid (U.cell? ⟨sb, 0, none⟩ = some (.int .i64 (tt : Int))) := ints_row HT.out
      have z2 : U.cell? ⟨sb, 0, none⟩ = some (.int .i64 (tt : Int)) := ints_row HT.out
      have z3 : U.cell? ⟨b3, 0, none⟩ = some (.slice none 0 0) := HX3.out.cell 0 _ rfl
      have z4 : U.cell? ⟨b3, 1, none⟩ = some (.slice none 0 0) := HX3.out.cell 1 _ rfl
      have g3 : U.frozen? ⟨b3, 0, none⟩ = false := HX3.out.fz 0
      have g4 : U.frozen? ⟨b3, 1, none⟩ = false := HX3.out.fz 1
      clear hk6 hs3 h1 h3 h4 h5 h6 hdf hD
      gi_wp2
      refine region_tail (by first | exact .inl rfl | exact .inr ⟨_, rfl⟩) 3 (by kernel_rfl) (by kernel_rfl) ?_
      simp only [List.take_succ_cons, List.take_zero, List.drop_succ_cons, List.drop_zero]
      refine head_start (S := (fun U2 : World => U2.cell? ⟨sb, 0, none⟩ = some (.int .i64 (tt : Int)))) (by (try dsimp only); (first | exact HX0.out | exact HX9.out)) (fun hHeld => ?_)
      refine wpAnyH_take (i := 0) (v := ?_) (by simp only [List.getElem?_toArray, List.getElem?_cons_zero]; exact rfl) (by kernel_rfl) (by kernel_rfl) (by kernel_rfl) (fun _ _ _ h => h) (Or.inl ⟨by rfl, ?_⟩) (by assumption) ?_
      rotate_left
      · intro w hSw; (try dsimp only at hSw); go_simp <;> with_reducible rfl
      try simp only [Act.put, List.setIfInBounds_toArray, List.set_cons_zero, List.set_cons_succ]
      refine wpAnyH_take (i := 1) (v := ?_) (by simp only [List.getElem?_toArray, List.getElem?_cons_succ, List.getElem?_cons_zero]; exact rfl) (by kernel_rfl) (by kernel_rfl) (by kernel_rfl) (fun _ _ _ h => h) (Or.inl ⟨by rfl, ?_⟩) (by assumption) ?_
      rotate_left
      · intro w hSw; (try dsimp only at hSw); go_simp <;> with_reducible rfl
      try simp only [Act.put, List.setIfInBounds_toArray, List.set_cons_zero, List.set_cons_succ]
      refine wpAnyH_ready (rs := [2]) (by kernel_rfl) (by simp) ?_
      refine AllReadyH.cons (by simp only [List.getElem?_toArray, List.getElem?_cons_succ, List.getElem?_cons_zero]; exact rfl) (fun K hK => ?_) AllReadyH.nil
      go_simp
      clear hHeld
      refine hK.out _ _ ?_ (fun hHeld => ?_)
      · (try dsimp only); (first | exact HX0.out | exact HX9.out)
      clear hK K
      try simp only [Act.put, List.setIfInBounds_toArray, List.set_cons_zero, List.set_cons_succ]
      refine wpAnyH_done (by kernel_rfl) ?_ _
      all_goals
        simp only [HeadQ]
        clear z2 z3 z4 g3 g4
        generalize ((U.setCell ⟨b3, 0, none⟩ (.slice none 0 0)).setCell ⟨b3, 1, none⟩ (.slice none 0 0)).drew = W6 at *
        have z5 : W6.cell? ⟨b4, 0, none⟩ = some (.int .i64 0) := ints_row HX7.out
        have g5 : W6.frozen? ⟨b4, 0, none⟩ = false := HX7.out.fz 0
        have HX7b : Hid (Box (W6.setCell ⟨b4, 0, none⟩ (.int .i64 (tt : Int))) b5 #[.bool false] 4) := (Go.Deep.blk_setCell_other _ _ _ _ (by have := HN.out; show b5 ≠ b4; omega)).trans HX8.out
        have z6 : (W6.setCell ⟨b4, 0, none⟩ (.int .i64 (tt : Int))).cell? ⟨b5, 0, none⟩ = some (.bool false) := ints_row HX7b.out
        have g6 : (W6.setCell ⟨b4, 0, none⟩ (.int .i64 (tt : Int))).frozen? ⟨b5, 0, none⟩ = false := HX7b.out.fz 0
        gi_wp2
        have hl : ∀ i, i ≠ b4 → i ≠ b5 → ((W6.setCell ⟨b4, 0, none⟩ (.int .i64 (tt : Int))).setCell ⟨b5, 0, none⟩ (.bool false)).heap[i]? = W6.heap[i]? := fun i h1 h2 => (Go.Deep.blk_setCell_other _ _ _ _ h2).trans (Go.Deep.blk_setCell_other _ _ _ _ h1)
        have hn := HN.out
        have hv := HVS.out
        have hw2 := HB2.out.size
        refine leaves_marks (B := w2.heap.size) (I := fun U2 => Box U2 b3 #[.slice none 0 0, .slice none 0 0] 32 ∧ Box U2 b4 #[.int .i64 (tt : Int)] 3 ∧ Box U2 b5 #[.bool false] 4 ∧ Below w.heap.size w U2) (fun s A B row h hg hr => ⟨box_kept hg (fun r e => (hr r e).2) h.1, box_kept hg (fun r e => (hr r e).2) h.2.1, box_kept hg (fun r e => (hr r e).2) h.2.2.1, below_rows HWS.out h.2.2.2 hg hr⟩)
          (fun U2 h => ⟨_, results_fb rfl _ h.1 rfl h.2.1 h.2.2.1 rfl rfl rfl, .inl ⟨tt, HFN.out, rfl, h.2.2.2⟩⟩) _ _ (HMK6.out.keep fun D' h1 h2 => (hl D' (by omega) (by omega)).trans h2)
          ⟨(hl b3 (by omega) (by omega)).trans HX6.out, (Go.Deep.blk_setCell_other _ _ _ _ (by show b4 ≠ b5; omega)).trans (HX7.out.set 0 _ _ rfl), HX7b.out.set 0 _ _ rfl, (HB6.out.setCell (p := ⟨b4, 0, none⟩) (by show w.heap.size ≤ b4; omega) _).setCell (p := ⟨b5, 0, none⟩) (by show w.heap.size ≤ b5; omega) _⟩
    · have HMK : Hid (Mks w2.heap.size [{ target := .collected D, args := #[] }] U) := (Mks.nil _ _).cons hD (fun d h => by cases h) hdf
      have HI : Hid (Box U b3 q.cells 32 ∧ Box U b4 #[.int .i64 (tt : Int)] 3 ∧ Box U b5 #[.bool true] 4 ∧ Below w.heap.size w U ∧ PlOwn V.heap.size U q) := ⟨h2, h3, h4, h5, h6⟩
      have HFN := Lib.hid h1
      have HR7 := Lib.hid h7
      have HR8 := Lib.hid h8
      clear h1 h2 h3 h4 h5 h6 h7 h8 hdf hD
      gi_wp2
      refine leaves_marks (B := w2.heap.size) (I := fun U2 => Box U2 b3 q.cells 32 ∧ Box U2 b4 #[.int .i64 (tt : Int)] 3 ∧ Box U2 b5 #[.bool true] 4 ∧ Below w.heap.size w U2 ∧ PlOwn V.heap.size U2 q) (fun s A B row h hg hr => ⟨box_kept hg (fun r e => (hr r e).2) h.1, box_kept hg (fun r e => (hr r e).2) h.2.1, box_kept hg (fun r e => (hr r e).2) h.2.2.1, below_rows HWS.out h.2.2.2.1 hg hr, h.2.2.2.2.grown hg (fun r e => (hr r e).2)⟩)
        (fun U2 h => ⟨_, results_fb rfl _ h.1 rfl h.2.1 h.2.2.1 rfl rfl rfl, .inr ⟨q, tt, HFN.out, rfl, h.2.2.2.1, h.2.2.2.2.mono (by have := HN.out; have := HVS.out; omega), HR7.out, HR8.out⟩⟩) _ _ HMK.out HI.out
end Go.Proofs.YtgjmlnpfkmpfgaaGreat
