/- Texts joined: What the laws of package better share: steps, told of; the boxes. What a law asks of moves: orders served once; stops that are counted up. -/
import Derived.Test.YtgjmlnpfkmpfgaaGreatBetEL
import Derived.Test.YtgjmlnpfkmpfgaaGreatBetAw
import Derived.Test.YtgjmlnpfkmpfgaaGreatBetPlm
import Derived.Test.YtgjmlnpfkmpfgaaGreatMaths
section
/-! What the laws of package better share: steps, told of; the boxes. -/
namespace Bt
section
variable {α : Type} {better : α → α → Bool} {mv : α → List α}
/-- what stays true of what is better stays true -/
theorem go_as2 {R : α → Prop} (hR : ∀ p q, R p → better q p = true → R q) (n : Nat) : ∀ (p : α) (l : List α), R p → R (goS better mv n p l).1 := by
  induction n with
  | zero => intro p l h; rw [go_zero]; exact h
  | succ n ih =>
    intro p l h
    cases l with
    | nil => rw [go_nil]; exact h
    | cons q l =>
      cases hb : better q p with
      | true => rw [go_yes hb]; exact ih q (mv q) (hR p q h hb)
      | false => rw [go_no hb]; exact ih p l h
/-- all steps were taken: more go on from there -/
theorem go_add (n m : Nat) : ∀ (p : α) (l : List α), (goS better mv n p l).2 = n → ∃ l', goS better mv (n + m) p l = ((goS better mv m (goS better mv n p l).1 l').1, (goS better mv m (goS better mv n p l).1 l').2 + n) := by
  induction n with
  | zero => intro p l h; refine ⟨l, ?_⟩; rw [go_zero, Nat.zero_add]; rfl
  | succ n ih =>
    intro p l h
    rw [Nat.add_right_comm]
    cases l with
    | nil => rw [go_nil] at h; cases h
    | cons q l =>
      cases hb : better q p with
      | true =>
        rw [go_yes hb] at h
        obtain ⟨l', e⟩ := ih q (mv q) (by simp only at h; omega)
        refine ⟨l', ?_⟩
        rw [go_yes hb, go_yes hb, e]
        rfl
      | false =>
        rw [go_no hb] at h
        obtain ⟨l', e⟩ := ih p l (by simp only at h; omega)
        refine ⟨l', ?_⟩
        rw [go_no hb, go_no hb, e]
        rfl
end
end Bt
namespace Go.Proofs.YtgjmlnpfkmpfgaaGreat
open Go.RowKit
set_option linter.unusedVariables false
set_option maxRecDepth 100000

theorem bet_trans {x : Wd} {a b c : List Pl.Ro} (h : betB x a b = true) (h2 : betB x b c = true) : betB x a c = true := Pl.less_trans h h2
theorem bet_asym {x : Wd} {a b : List Pl.Ro} (h : betB x a b = true) : betB x b a = false := Pl.less_asym h
theorem bet_self (x : Wd) (a : List Pl.Ro) : betB x a a = false := Pl.less_self _ _
/-- what came is what was, or better -/
theorem go_good (x : Wd) (n : Nat) (p : List Pl.Ro) (l : List (List Pl.Ro)) : (Bt.goS (betB x) (mvB x) n p l).1 = p ∨ betB x (Bt.goS (betB x) (mvB x) n p l).1 p = true :=
  Bt.go_as2 (R := fun a => a = p ∨ betB x a p = true) (fun a b h hb => by
    rcases h with rfl | h
    · exact .inr hb
    · exact .inr (bet_trans hb h)) n p l (.inl rfl)
theorem go_not (x : Wd) (n : Nat) (p : List Pl.Ro) (l : List (List Pl.Ro)) : betB x p (Bt.goS (betB x) (mvB x) n p l).1 = false := by
  rcases go_good x n p l with h | h
  · rw [h]; exact bet_self x p
  · exact bet_asym h
def OkR (x : Wd) (a : List Pl.Ro) : Prop := (Pl.checkS x.N x.D x.T x.os x.ts a (Pl.restS x.os a)).2 = 0
theorem go_ok (x : Wd) (n : Nat) (p : List Pl.Ro) (l : List (List Pl.Ro)) (h : OkR x p) : OkR x (Bt.goS (betB x) (mvB x) n p l).1 :=
  Bt.go_as2 (R := OkR x) (fun a b _ hb => (by
    have h1 := (of_decide_eq_true hb).1
    exact h1)) n p l h
/-- as the program compares them -/
def lessP (x : Wd) (a b : Pd) : Bool := Pl.lessB (Pl.checkS x.N x.D x.T x.os x.ts (ros a.rs) a.us) (Pl.checkS x.N x.D x.T x.os x.ts (ros b.rs) b.us) a.um b.um
theorem less_bet {x : Wd} {a b : Pd} (ha : a.us = Pl.restS x.os (ros a.rs)) (hb : b.us = Pl.restS x.os (ros b.rs)) (la : a.us.length = a.um) (lb : b.us.length = b.um) : lessP x a b = betB x (ros a.rs) (ros b.rs) := by
  unfold lessP betB
  rw [← la, ← lb, ha, hb]
/-- what is known of what Improve returns -/
structure Imp (x : Wd) (p q : Pd) (n t : Nat) : Prop where
  le : t ≤ n
  ok : ∃ z, Pl.checkS x.N x.D x.T x.os x.ts (ros q.rs) q.us = (z, 0)
  no : lessP x p q = false
  or_ : ros q.rs = ros p.rs ∧ q.us = p.us ∨ lessP x q p = true
  go : Bt.goS (betB x) (mvB x) n (ros p.rs) (mvB x (ros p.rs)) = (ros q.rs, t)
  us : q.us = Pl.restS x.os (ros q.rs)
theorem imp_of {x : Wd} {p q : Pd} {n t : Nat} {z : Int} (hc : Pl.checkS x.N x.D x.T x.os x.ts (ros p.rs) p.us = (z, 0)) (hgo : Bt.goS (betB x) (mvB x) n (ros p.rs) (mvB x (ros p.rs)) = (ros q.rs, t)) (hus : q.us = Pl.restS x.os (ros q.rs)) (lp : p.us.length = p.um) (lq : q.us.length = q.um) : Imp x p q n t := by
  have hp : p.us = Pl.restS x.os (ros p.rs) := (Pl.may_of (by rw [hc])).1.us
  have h1 : (Bt.goS (betB x) (mvB x) n (ros p.rs) (mvB x (ros p.rs))).1 = ros q.rs := by rw [hgo]
  have h2 : (Bt.goS (betB x) (mvB x) n (ros p.rs) (mvB x (ros p.rs))).2 = t := by rw [hgo]
  refine ⟨?_, ?_, ?_, ?_, hgo, hus⟩
  · rw [← h2]; exact Bt.go_le _ _ _
  · have h := go_ok x n (ros p.rs) (mvB x (ros p.rs)) (by unfold OkR; rw [← hp, hc])
    rw [h1] at h
    unfold OkR at h
    rw [← hus] at h
    exact ⟨_, Prod.ext rfl h⟩
  · rw [less_bet hp hus lp lq, ← h1]; exact go_not x n _ _
  · rw [less_bet hus hp lq lp]
    rcases go_good x n (ros p.rs) (mvB x (ros p.rs)) with h | h
    · rw [h1] at h
      exact .inl ⟨h, by rw [hus, hp, h]⟩
    · rw [h1] at h
      exact .inr h
/-- no move of it is better, if steps are left -/
theorem Imp.moves {x : Wd} {p q : Pd} {n t : Nat} (h : Imp x p q n t) (ht : t < n) (lq : q.us.length = q.um) {r : Pd} (hr : ros r.rs ∈ Bt.movesL (ros q.rs) q.us (x.ts.map Ld.T.id)) (hu : r.us = Pl.restS x.os (ros r.rs)) (lr : r.us.length = r.um) : lessP x r q = false := by
  have h1 : (Bt.goS (betB x) (mvB x) n (ros p.rs) (mvB x (ros p.rs))).1 = ros q.rs := by rw [h.go]
  have h2 : (Bt.goS (betB x) (mvB x) n (ros p.rs) (mvB x (ros p.rs))).2 = t := by rw [h.go]
  have h3 := Bt.go_end (better := betB x) (mv := mvB x) n (ros p.rs) (mvB x (ros p.rs)) (fun _ h => .inl h) (by omega)
  rw [h1] at h3
  rw [less_bet hu h.us lr lq]
  refine h3 _ ?_
  show ros r.rs ∈ Bt.movesL (ros q.rs) (Pl.restS x.os (ros q.rs)) (x.ts.map Ld.T.id)
  rw [← h.us]
  exact hr
/-- more steps -/
theorem Imp.more {x : Wd} {p q r : Pd} {n m t k : Nat} (h : Imp x p q n t) (h2 : Imp x p r (n + m) k) (lq : q.us.length = q.um) (lr : r.us.length = r.um) :
    t ≤ k ∧ lessP x q r = false ∧ (t = n ∨ k = t ∧ ros q.rs = ros r.rs ∧ q.us = r.us) := by
  have e1 : (Bt.goS (betB x) (mvB x) n (ros p.rs) (mvB x (ros p.rs))).1 = ros q.rs := by rw [h.go]
  have e2 : (Bt.goS (betB x) (mvB x) n (ros p.rs) (mvB x (ros p.rs))).2 = t := by rw [h.go]
  rw [less_bet h.us h2.us lq lr]
  by_cases ht : t < n
  · have h3 := Bt.go_more (better := betB x) (mv := mvB x) n m (ros p.rs) (mvB x (ros p.rs)) (by omega)
    rw [h2.go, h.go] at h3
    injection h3 with h4 h5
    refine ⟨by omega, by rw [h4]; exact bet_self x _, .inr ⟨h5, h4.symm, by rw [h.us, h2.us, h4]⟩⟩
  · have hle := h.le
    have htn : t = n := by omega
    obtain ⟨l', h3⟩ := Bt.go_add (better := betB x) (mv := mvB x) n m (ros p.rs) (mvB x (ros p.rs)) (by rw [e2]; exact htn)
    rw [h2.go, e1] at h3
    injection h3 with h4 h5
    refine ⟨by omega, by rw [h4]; exact go_not x m _ _, .inl htn⟩

theorem pbox0 {W : World} {b : Nat} {p : Pd} (h : Box W b p.cells 32) : W.cell? ⟨b, 0, none⟩ = some (.slice p.rA p.rm p.rc) := h.cell 0 _ rfl
theorem pbox1 {W : World} {b : Nat} {p : Pd} (h : Box W b p.cells 32) : W.cell? ⟨b, 1, none⟩ = some (.slice p.uA p.um p.uc) := h.cell 1 _ rfl
/-- the boxes of a law -/
structure OB (V : World) (b1 b2 : Nat) (x : Wd) (p : Pd) : Prop where
  w : Box V b1 x.cells 28
  p : Box V b2 p.cells 32
theorem OB.below {V V' : World} {b1 b2 : Nat} {x : Wd} {p : Pd} (h : OB V b1 b2 x p) (hb : Below V.heap.size V V') : OB V' b1 b2 x p := ⟨h.w.below hb, h.p.below hb⟩
theorem OB.new (w : World) (x : Wd) (p : Pd) : OB ((w.alloc (.cells #[.int .i64 x.N, .slice x.dA x.dm x.dc, .slice x.tA x.tm x.tc, .slice x.A x.m x.c, .slice x.B x.k x.d] 28)).alloc (.cells #[.slice p.rA p.rm p.rc, .slice p.uA p.um p.uc] 32)) w.heap.size (w.heap.size + 1) x p :=
  ⟨(Box.new w _ _).below (below_alloc _ _), box_new_at _ _ _ _ (by simp)⟩
/-- and what is read of them -/
structure OW (V : World) (b1 b2 : Nat) (x : Wd) (p : Pd) : Prop where
  w : WX V b1 x
  p : PX V b2 p
theorem OW.below {V V' : World} {b1 b2 : Nat} {x : Wd} {p : Pd} (h : OW V b1 b2 x p) (hb : Below V.heap.size V V') : OW V' b1 b2 x p := ⟨⟨h.w.box.below hb, h.w.at_.below hb⟩, h.p.below hb⟩
theorem large_no3 {x : Wd} {p : Pd} {n : Int} (h : ¬ LargeB x p n) : ¬ Large x r0 ∧ ¬ LargeP p ∧ (n ≤ 400 ∨ 100000 < n) := ⟨fun e => h (.inl e), fun e => h (.inr (.inl e)), by unfold LargeB at h; by_cases hn : n ≤ 400; exact .inl hn; exact .inr (by rcases Int.lt_or_le 100000 n with e | e; exact e; exact absurd (.inr (.inr ⟨by omega, e⟩)) h)⟩
end Go.Proofs.YtgjmlnpfkmpfgaaGreat
end

section
/-! What a law asks of moves: orders served once; stops that are counted up. -/
namespace Go.Proofs.YtgjmlnpfkmpfgaaGreat
open Go.RowKit
set_option linter.unusedVariables false
set_option maxRecDepth 100000

/-- what is known of the plans that Moves returns -/
def MvPost (w : World) (x : Wd) (e : Ending) (w' : World) : Prop := ∃ (A : Option Addr) (m c : Nat) (l : List Pd), e = .returned (.slice A m c) ∧ Hid (Below w.heap.size w w' ∧ OwnP w' w.heap.size (.slice A m c) l ∧
  ∀ q ∈ l, PlOwn w.heap.size w' q ∧ Pl.dupB (Pl.servedS (ros q.rs)) = false ∧ (Pl.servedS (ros q.rs)).length + q.um = x.m)
theorem moves_any (x : Wd) (p : Pd) (w : World) (hx : WAt w x) (hp : PAt w p) (hcap : ∀ r ∈ p.rs, r.sm ≤ r.sc) :
    Calls Tryz.prog 10 #[.agg #[.int .i64 x.N, .slice x.dA x.dm x.dc, .slice x.tA x.tm x.tc, .slice x.A x.m x.c, .slice x.B x.k x.d], .agg #[.slice p.rA p.rm p.rc, .slice p.uA p.um p.uc]] w (MvPost w x) := by
  obtain ⟨z, er, hck⟩ : ∃ z er, Pl.checkS x.N x.D x.T x.os x.ts (ros p.rs) p.us = (z, er) := ⟨_, _, rfl⟩
  by_cases he : er = 0
  · subst he
    have hmay := (Pl.may_of (by rw [hck])).1
    refine (moves_yes x p w z hck hx hp hcap).mono ?_
    rintro e w' ⟨A, m, c, l, rfl, h⟩
    refine ⟨A, m, c, l, rfl, h.out.1, h.out.2.1, fun q hq => ?_⟩
    have h1 := h.out.2.2.1 q hq
    have h2 := Bt.moves_all hmay (q := ros q.rs) (ids := x.ts.map Ld.T.id) (by rw [← h.out.2.2.2]; exact List.mem_map.2 ⟨q, hq, rfl⟩)
    refine ⟨h1.1, h2.1, ?_⟩
    rw [← h1.1.at_.ul, h1.2.1, h2.2]
    exact hx.ml
  · have hz : z = 0 := by
      have := Pl.check_zero (N := x.N) (D := x.D) (T := x.T) (os := x.os) (ts := x.ts) (rs := ros p.rs) (us := p.us) (by rw [hck]; exact he)
      rw [hck] at this
      exact this
    subst hz
    refine (moves_no x p w er hck he hx hp).mono ?_
    rintro e w' ⟨rfl, h⟩
    exact ⟨none, 0, 0, [], rfl, h.out, ownP_nil _ _, fun q hq => by cases hq⟩

/-- plans whose stops are counted up: their rows stay, their stops hold some numbers -/
structure Bmp (V U : World) (A : Option Addr) (m c : Nat) (l : List Pd) : Prop where
  bel : Below V.heap.size V U
  row : OwnP U V.heap.size (.slice A m c) l
  rr : ∀ q ∈ l, OwnQ U V.heap.size (.slice q.rA q.rm q.rc) q.rs
  st : ∀ q ∈ l, ∀ r ∈ q.rs, ∀ j, j < r.sm → ∃ (ad : Addr) (z : Int), r.sA = some ad ∧ V.heap.size ≤ ad.block ∧ U.cell? (ad.add j) = some (.int .i64 z) ∧ U.frozen? (ad.add j) = false ∧ ∃ (cs : Array Value) (fr : Nat × Nat), U.heap[ad.block]? = some (Obj.cells cs 3 fr)
theorem add_block (ad : Addr) (j : Nat) : (ad.add j).block = ad.block := by unfold Addr.add; split <;> rfl
theorem int_set_other {U : World} {ad : Addr} (j : Nat) (hi : ∃ (cs : Array Value) (fr : Nat × Nat), U.heap[ad.block]? = some (Obj.cells cs 3 fr)) (y : Value) {b : Nat} {cs : Array Value} {t : TypeId} (ht : t ≠ 3) (hb : Box U b cs t) : Box (U.setCell (ad.add j) y) b cs t := by
  obtain ⟨cs2, fr, hi⟩ := hi
  refine (Go.Deep.blk_setCell_other _ _ _ _ (fun e => ?_)).trans hb
  rw [add_block] at e
  rw [← e, show U.heap[b]? = _ from hb] at hi
  have hi' := Option.some.inj hi
  injection hi' with _ e2 _
  exact ht e2
theorem Bmp.below {V U W : World} {A : Option Addr} {m c : Nat} {l : List Pd} (h : Bmp V U A m c l) (hb : Below U.heap.size U W) : Bmp V W A m c l := by
  refine ⟨below_next h.bel hb, h.row.below hb, fun q hq => (h.rr q hq).below hb, fun q hq r hr j hj => ?_⟩
  obtain ⟨ad, z, e, h1, h2, h3, cs, fr, h4⟩ := h.st q hq r hr j hj
  have hlt : ad.block < U.heap.size := lt_some h4
  exact ⟨ad, z, e, h1, (hb.cell (p := ad.add j) (by rw [add_block]; exact hlt)).trans h2, (hb.frozen (p := ad.add j) (by rw [add_block]; exact hlt)).trans h3, cs, fr, (hb.block _ hlt).trans h4⟩
theorem Bmp.start {V U : World} {A : Option Addr} {m c : Nat} {l : List Pd} (hb : Below V.heap.size V U) (h : OwnP U V.heap.size (.slice A m c) l) (hq : ∀ q ∈ l, PlOwn V.heap.size U q) : Bmp V U A m c l := by
  refine ⟨hb, h, fun q hq' => (hq q hq').rr, fun q hq' r hr j hj => ?_⟩
  have hst := (hq q hq').at_.ra r hr
  have hown := (hq q hq').st r hr
  rcases hown.2 with ⟨e, h0⟩ | ⟨b, cap, cur, hv, hgb, hh, hrest⟩
  · injection e with e1 e2 e3
    omega
  · injection hv with e1 e2 e3
    obtain ⟨z, hz⟩ := mlist_at r.st j (by rw [hst.sl]; exact hj)
    obtain ⟨ad, e4, hc⟩ := hst.st j z hz
    obtain rfl : ad = ⟨b, 0, none⟩ := by rw [e1] at e4; exact (Option.some.inj e4).symm
    refine ⟨⟨b, 0, none⟩, z, e1, hgb, hc, ?_, cur, _, hh⟩
    unfold World.frozen?
    rw [add_block, show U.heap[(⟨b, 0, none⟩ : Addr).block]? = _ from hh]
    simp
theorem Bmp.set {V U : World} {A : Option Addr} {m c : Nat} {l : List Pd} (h : Bmp V U A m c l) {ad : Addr} (j : Nat) (hb : V.heap.size ≤ ad.block) (hi : ∃ (cs : Array Value) (fr : Nat × Nat), U.heap[ad.block]? = some (Obj.cells cs 3 fr)) (y : Int) : Bmp V (U.setCell (ad.add j) (.int .i64 y)) A m c l := by
  obtain ⟨cs, fr, hi⟩ := hi
  have hblk := add_block ad j
  have hoth : ∀ (k : Nat) (cs' : Array Value) (ty : TypeId) (fr' : Nat × Nat), U.heap[k]? = some (Obj.cells cs' ty fr') → ty ≠ 3 → (U.setCell (ad.add j) (.int .i64 y)).heap[k]? = some (Obj.cells cs' ty fr') := fun k cs' ty fr' hk hty => by
    refine (Go.Deep.blk_setCell_other _ _ _ _ (fun e => ?_)).trans hk
    rw [hblk] at e
    subst e
    rw [hi] at hk
    have hk' := Option.some.inj hk
    injection hk' with _ e2 _
    exact hty e2.symm
  refine ⟨h.bel.setCell (p := ad.add j) (by rw [hblk]; omega) _, ?_, fun q hq => ?_, fun q hq r hr k hk => ?_⟩
  · obtain ⟨h1, h2⟩ := h.row
    refine ⟨h1, ?_⟩
    rcases h2 with h2 | ⟨g, cap, cur, hv, hg, hh, hrest⟩
    · exact .inl h2
    · exact .inr ⟨g, cap, cur, hv, hg, hoth g _ 32 _ hh (by decide), hrest⟩
  · obtain ⟨h1, h2⟩ := h.rr q hq
    refine ⟨h1, ?_⟩
    rcases h2 with h2 | ⟨g, cap, cur, hv, hg, hh, hrest⟩
    · exact .inl h2
    · exact .inr ⟨g, cap, cur, hv, hg, hoth g _ 49 _ hh (by decide), hrest⟩
  · obtain ⟨ad2, z, e, l1, hc, hf, cs2, fr2, l2⟩ := h.st q hq r hr k hk
    have h3 : ∃ cs fr, (U.setCell (ad.add j) (.int .i64 y)).heap[ad2.block]? = some (.cells cs 3 fr) := by
      by_cases e3 : ad2.block = ad.block
      · rw [e3]
        refine ⟨if (ad.add j).spot.isSome then cs else cs.setIfInBounds (ad.add j).off (.int .i64 y), fr, ?_⟩
        unfold World.setCell
        simp [Array.getElem?_modify, hblk, hi]
      · exact ⟨cs2, fr2, (Go.Deep.blk_setCell_other _ _ _ _ (by rw [hblk]; exact e3)).trans l2⟩
    by_cases e2 : ad.add j = ad2.add k
    · exact ⟨ad2, y, e, l1, by rw [e2]; exact World.cell?_setCell_same U _ _ hc, by rw [World.frozen?_setCell]; exact hf, h3⟩
    · exact ⟨ad2, z, e, l1, by rw [World.cell?_setCell_other U _ _ _ e2]; exact hc, by rw [World.frozen?_setCell]; exact hf, h3⟩
end Go.Proofs.YtgjmlnpfkmpfgaaGreat
end
