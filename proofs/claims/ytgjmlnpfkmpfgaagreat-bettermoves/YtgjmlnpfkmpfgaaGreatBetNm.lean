/- What the laws of package better share: steps, told of; the boxes. -/
import Derived.Test.YtgjmlnpfkmpfgaaGreatBetEL
import Derived.Test.YtgjmlnpfkmpfgaaGreatBetAw
import Derived.Test.YtgjmlnpfkmpfgaaGreatBetPlm
namespace Bt
section
variable {α : Type} {better : α → α → Bool} {mv : α → List α}
/-- what stays true of what is better stays true -/
theorem go_as2 {R : α → Prop} (hR : ∀ p q, R p → better q p = true → R q) (n : Nat) : ∀ (p : α) (l : List α), R p → R (goS better mv n p l).1 := by
  induction n with
  | zero => intro p l h; rw [go_zero]; exact h
  | succ n ih =>
    intro p l h
    cases l with
    | nil => rw [go_nil]; exact h
    | cons q l =>
      cases hb : better q p with
      | true => rw [go_yes hb]; exact ih q (mv q) (hR p q h hb)
      | false => rw [go_no hb]; exact ih p l h
/-- all steps were taken: more go on from there -/
theorem go_add (n m : Nat) : ∀ (p : α) (l : List α), (goS better mv n p l).2 = n → ∃ l', goS better mv (n + m) p l = ((goS better mv m (goS better mv n p l).1 l').1, (goS better mv m (goS better mv n p l).1 l').2 + n) := by
  induction n with
  | zero => intro p l h; refine ⟨l, ?_⟩; rw [go_zero, Nat.zero_add]; rfl
  | succ n ih =>
    intro p l h
    rw [Nat.add_right_comm]
    cases l with
    | nil => rw [go_nil] at h; cases h
    | cons q l =>
      cases hb : better q p with
      | true =>
        rw [go_yes hb] at h
        obtain ⟨l', e⟩ := ih q (mv q) (by simp only at h; omega)
        refine ⟨l', ?_⟩
        rw [go_yes hb, go_yes hb, e]
        rfl
      | false =>
        rw [go_no hb] at h
        obtain ⟨l', e⟩ := ih p l (by simp only at h; omega)
        refine ⟨l', ?_⟩
        rw [go_no hb, go_no hb, e]
        rfl
end
end Bt
namespace Go.Proofs.YtgjmlnpfkmpfgaaGreat
open Go.RowKit
set_option linter.unusedVariables false
set_option maxRecDepth 100000

theorem bet_trans {x : Wd} {a b c : List Pl.Ro} (h : betB x a b = true) (h2 : betB x b c = true) : betB x a c = true := Pl.less_trans h h2
theorem bet_asym {x : Wd} {a b : List Pl.Ro} (h : betB x a b = true) : betB x b a = false := Pl.less_asym h
theorem bet_self (x : Wd) (a : List Pl.Ro) : betB x a a = false := Pl.less_self _ _
/-- what came is what was, or better -/
theorem go_good (x : Wd) (n : Nat) (p : List Pl.Ro) (l : List (List Pl.Ro)) : (Bt.goS (betB x) (mvB x) n p l).1 = p ∨ betB x (Bt.goS (betB x) (mvB x) n p l).1 p = true :=
  Bt.go_as2 (R := fun a => a = p ∨ betB x a p = true) (fun a b h hb => by
    rcases h with rfl | h
    · exact .inr hb
    · exact .inr (bet_trans hb h)) n p l (.inl rfl)
theorem go_not (x : Wd) (n : Nat) (p : List Pl.Ro) (l : List (List Pl.Ro)) : betB x p (Bt.goS (betB x) (mvB x) n p l).1 = false := by
  rcases go_good x n p l with h | h
  · rw [h]; exact bet_self x p
  · exact bet_asym h
def OkR (x : Wd) (a : List Pl.Ro) : Prop := (Pl.checkS x.N x.D x.T x.os x.ts a (Pl.restS x.os a)).2 = 0
theorem go_ok (x : Wd) (n : Nat) (p : List Pl.Ro) (l : List (List Pl.Ro)) (h : OkR x p) : OkR x (Bt.goS (betB x) (mvB x) n p l).1 :=
  Bt.go_as2 (R := OkR x) (fun a b _ hb => (by
    have h1 := (of_decide_eq_true hb).1
    exact h1)) n p l h
/-- as the program compares them -/
def lessP (x : Wd) (a b : Pd) : Bool := Pl.lessB (Pl.checkS x.N x.D x.T x.os x.ts (ros a.rs) a.us) (Pl.checkS x.N x.D x.T x.os x.ts (ros b.rs) b.us) a.um b.um
theorem less_bet {x : Wd} {a b : Pd} (ha : a.us = Pl.restS x.os (ros a.rs)) (hb : b.us = Pl.restS x.os (ros b.rs)) (la : a.us.length = a.um) (lb : b.us.length = b.um) : lessP x a b = betB x (ros a.rs) (ros b.rs) := by
  unfold lessP betB
  rw [← la, ← lb, ha, hb]
/-- what is known of what Improve returns -/
structure Imp (x : Wd) (p q : Pd) (n t : Nat) : Prop where
  le : t ≤ n
  ok : ∃ z, Pl.checkS x.N x.D x.T x.os x.ts (ros q.rs) q.us = (z, 0)
  no : lessP x p q = false
  or_ : ros q.rs = ros p.rs ∧ q.us = p.us ∨ lessP x q p = true
  go : Bt.goS (betB x) (mvB x) n (ros p.rs) (mvB x (ros p.rs)) = (ros q.rs, t)
  us : q.us = Pl.restS x.os (ros q.rs)
theorem imp_of {x : Wd} {p q : Pd} {n t : Nat} {z : Int} (hc : Pl.checkS x.N x.D x.T x.os x.ts (ros p.rs) p.us = (z, 0)) (hgo : Bt.goS (betB x) (mvB x) n (ros p.rs) (mvB x (ros p.rs)) = (ros q.rs, t)) (hus : q.us = Pl.restS x.os (ros q.rs)) (lp : p.us.length = p.um) (lq : q.us.length = q.um) : Imp x p q n t := by
  have hp : p.us = Pl.restS x.os (ros p.rs) := (Pl.may_of (by rw [hc])).1.us
  have h1 : (Bt.goS (betB x) (mvB x) n (ros p.rs) (mvB x (ros p.rs))).1 = ros q.rs := by rw [hgo]
  have h2 : (Bt.goS (betB x) (mvB x) n (ros p.rs) (mvB x (ros p.rs))).2 = t := by rw [hgo]
  refine ⟨?_, ?_, ?_, ?_, hgo, hus⟩
  · rw [← h2]; exact Bt.go_le _ _ _
  · have h := go_ok x n (ros p.rs) (mvB x (ros p.rs)) (by unfold OkR; rw [← hp, hc])
    rw [h1] at h
    unfold OkR at h
    rw [← hus] at h
    exact ⟨_, Prod.ext rfl h⟩
  · rw [less_bet hp hus lp lq, ← h1]; exact go_not x n _ _
  · rw [less_bet hus hp lq lp]
    rcases go_good x n (ros p.rs) (mvB x (ros p.rs)) with h | h
    · rw [h1] at h
      exact .inl ⟨h, by rw [hus, hp, h]⟩
    · rw [h1] at h
      exact .inr h
/-- no move of it is better, if steps are left -/
theorem Imp.moves {x : Wd} {p q : Pd} {n t : Nat} (h : Imp x p q n t) (ht : t < n) (lq : q.us.length = q.um) {r : Pd} (hr : ros r.rs ∈ Bt.movesL (ros q.rs) q.us (x.ts.map Ld.T.id)) (hu : r.us = Pl.restS x.os (ros r.rs)) (lr : r.us.length = r.um) : lessP x r q = false := by
  have h1 : (Bt.goS (betB x) (mvB x) n (ros p.rs) (mvB x (ros p.rs))).1 = ros q.rs := by rw [h.go]
  have h2 : (Bt.goS (betB x) (mvB x) n (ros p.rs) (mvB x (ros p.rs))).2 = t := by rw [h.go]
  have h3 := Bt.go_end (better := betB x) (mv := mvB x) n (ros p.rs) (mvB x (ros p.rs)) (fun _ h => .inl h) (by omega)
  rw [h1] at h3
  rw [less_bet hu h.us lr lq]
  refine h3 _ ?_
  show ros r.rs ∈ Bt.movesL (ros q.rs) (Pl.restS x.os (ros q.rs)) (x.ts.map Ld.T.id)
  rw [← h.us]
  exact hr
/-- more steps -/
theorem Imp.more {x : Wd} {p q r : Pd} {n m t k : Nat} (h : Imp x p q n t) (h2 : Imp x p r (n + m) k) (lq : q.us.length = q.um) (lr : r.us.length = r.um) :
    t ≤ k ∧ lessP x q r = false ∧ (t = n ∨ k = t ∧ ros q.rs = ros r.rs ∧ q.us = r.us) := by
  have e1 : (Bt.goS (betB x) (mvB x) n (ros p.rs) (mvB x (ros p.rs))).1 = ros q.rs := by rw [h.go]
  have e2 : (Bt.goS (betB x) (mvB x) n (ros p.rs) (mvB x (ros p.rs))).2 = t := by rw [h.go]
  rw [less_bet h.us h2.us lq lr]
  by_cases ht : t < n
  · have h3 := Bt.go_more (better := betB x) (mv := mvB x) n m (ros p.rs) (mvB x (ros p.rs)) (by omega)
    rw [h2.go, h.go] at h3
    injection h3 with h4 h5
    refine ⟨by omega, by rw [h4]; exact bet_self x _, .inr ⟨h5, h4.symm, by rw [h.us, h2.us, h4]⟩⟩
  · have hle := h.le
    have htn : t = n := by omega
    obtain ⟨l', h3⟩ := Bt.go_add (better := betB x) (mv := mvB x) n m (ros p.rs) (mvB x (ros p.rs)) (by rw [e2]; exact htn)
    rw [h2.go, e1] at h3
    injection h3 with h4 h5
    refine ⟨by omega, by rw [h4]; exact go_not x m _ _, .inl htn⟩

theorem pbox0 {W : World} {b : Nat} {p : Pd} (h : Box W b p.cells 32) : W.cell? ⟨b, 0, none⟩ = some (.slice p.rA p.rm p.rc) := h.cell 0 _ rfl
theorem pbox1 {W : World} {b : Nat} {p : Pd} (h : Box W b p.cells 32) : W.cell? ⟨b, 1, none⟩ = some (.slice p.uA p.um p.uc) := h.cell 1 _ rfl
/-- the boxes of a law -/
structure OB (V : World) (b1 b2 : Nat) (x : Wd) (p : Pd) : Prop where
  w : Box V b1 x.cells 28
  p : Box V b2 p.cells 32
theorem OB.below {V V' : World} {b1 b2 : Nat} {x : Wd} {p : Pd} (h : OB V b1 b2 x p) (hb : Below V.heap.size V V') : OB V' b1 b2 x p := ⟨h.w.below hb, h.p.below hb⟩
theorem OB.new (w : World) (x : Wd) (p : Pd) : OB ((w.alloc (.cells #[.int .i64 x.N, .slice x.dA x.dm x.dc, .slice x.tA x.tm x.tc, .slice x.A x.m x.c, .slice x.B x.k x.d] 28)).alloc (.cells #[.slice p.rA p.rm p.rc, .slice p.uA p.um p.uc] 32)) w.heap.size (w.heap.size + 1) x p :=
  ⟨(Box.new w _ _).below (below_alloc _ _), box_new_at _ _ _ _ (by simp)⟩
/-- and what is read of them -/
structure OW (V : World) (b1 b2 : Nat) (x : Wd) (p : Pd) : Prop where
  w : WX V b1 x
  p : PX V b2 p
theorem OW.below {V V' : World} {b1 b2 : Nat} {x : Wd} {p : Pd} (h : OW V b1 b2 x p) (hb : Below V.heap.size V V') : OW V' b1 b2 x p := ⟨⟨h.w.box.below hb, h.w.at_.below hb⟩, h.p.below hb⟩
theorem large_no3 {x : Wd} {p : Pd} {n : Int} (h : ¬ LargeB x p n) : ¬ Large x r0 ∧ ¬ LargeP p ∧ (n ≤ 400 ∨ 100000 < n) := ⟨fun e => h (.inl e), fun e => h (.inr (.inl e)), by unfold LargeB at h; by_cases hn : n ≤ 400; exact .inl hn; exact .inr (by rcases Int.lt_or_le 100000 n with e | e; exact e; exact absurd (.inr (.inr ⟨by omega, e⟩)) h)⟩
end Go.Proofs.YtgjmlnpfkmpfgaaGreat
