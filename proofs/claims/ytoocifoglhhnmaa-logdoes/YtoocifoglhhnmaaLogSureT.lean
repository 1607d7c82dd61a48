/- What LogSure's walk holds between its calls. -/
import Derived.Test.YtoocifoglhhnmaaLogWay
import Derived.Test.YtoocifoglhhnmaaLogSureM
import Derived.Test.YtoocifoglhhnmaaLogOpenB
namespace Go.Proofs.Ytoocifoglhhnmaa
open Go.RowKit
set_option linter.unusedVariables false

theorem openQ_writes (n : Nat) (d : Dk.D) : (openQ n d).1.writes ≤ d.writes + 1 + n := by
  have h1 : (chooseQ n d).1.writes ≤ d.writes + 1 := by
    have := Lg.wr_writes (n := n) d 0 (Lg.head 1)
    unfold chooseQ
    split
    · simp only; omega
    split
    · simp only; omega
    split
    · simp only; omega
    · simp only; omega
  unfold openQ openEnd
  generalize chooseQ n d = c at *
  split
  · have := Lg.wipeS_writes n (Lg.start n c.2.2.2) (Lg.scan c.1.b (Lg.start n c.2.2.2) (n / 2) c.2.2.1 (n / 2) 1 0).2 (n / 2) c.1
    simp only
    omega
  · simp only; omega

theorem fresh_goes {n : Nat} (hn : 4 ≤ n) : (openQ n (Dk.fresh n)).2.1 = 0 ∧ Lg.Goes n (openQ n (Dk.fresh n)).2.2 (openQ n (Dk.fresh n)).1 ∧ (openQ n (Dk.fresh n)).2.2.recs = [] ∧ (openQ n (Dk.fresh n)).1.writes ≤ 1 + n := by
  obtain ⟨h1, h2, h3, h4, h5⟩ := Lg.open_fresh hn
  refine ⟨h1, ⟨?_, h3, by rw [h2]⟩, by rw [h2], ?_⟩
  · rw [h2]; exact h5
  · have := openQ_writes n (Dk.fresh n)
    have e : (Dk.fresh n).writes = 0 := rfl
    omega

/-- between the operations -/
structure OpsS (w W : World) (F : Nat → Prop) (lb g s n : Nat) (As Aw : Option Addr) (x : Lg.L) (d : Dk.D) : Prop where
  ll : LL w W F lb g s n x d
  go : Lg.Goes n x d
  rs : RowIn F W As x.recs
  rw : RowIn F W Aw x.recs
theorem OpsS.len {w W : World} {F : Nat → Prop} {lb g s n : Nat} {As Aw : Option Addr} {x : Lg.L} {d : Dk.D} (h : OpsS w W F lb g s n As Aw x d) : x.recs.length ≤ n := by
  have h1 := h.ll.good.cnt
  have h2 := h.ll.good.fin
  omega

theorem OpsS.below {w W W' : World} {F : Nat → Prop} {lb g s n : Nat} {As Aw : Option Addr} {x : Lg.L} {d : Dk.D} (h : OpsS w W F lb g s n As Aw x d) (hb : Below W.heap.size W W') : OpsS w W' F lb g s n As Aw x d :=
  ⟨h.ll.below hb, h.go, h.rs.keep (Kept.of_below hb), h.rw.keep (Kept.of_below hb)⟩
theorem below_drew (W : World) : Below W.heap.size W W.drew := ⟨rfl, rfl, rfl, Nat.le_refl _, fun _ _ => rfl⟩
theorem below_alloc (W : World) (o : Obj) : Below W.heap.size W (W.alloc o) := (Below.refl _ _).alloc (Nat.le_refl _) o
theorem OpsS.fuse {w W W' : World} {F : Nat → Prop} {lb g s n : Nat} {As Aw : Option Addr} {x : Lg.L} {d : Dk.D} (h : OpsS w W F lb g s n As Aw x d) (a c : Int) (h0 : -9223372036854775808 ≤ a) (h1 : a ≤ 9223372036854775807) (hl : LL w W' F lb g s n x (Dk.fuseTo d a c)) (hk : Kept (Two g s) W W') : OpsS w W' F lb g s n As Aw x (Dk.fuseTo d a c) :=
  ⟨hl, h.go.fuse a c h0 h1, h.rs.keep (hk.wide (fun i _ => h.ll.two i)), h.rw.keep (hk.wide (fun i _ => h.ll.two i))⟩
/-- a row of records, and nothing old has turned -/
def WayM (W : World) (F : Nat → Prop) (rs : List Dk.Bs) (m : Nat) (v : Value) (w' : World) : Prop := ∃ A c, v = .slice A m c ∧ Hid (RowIn F w' A rs ∧ Below W.heap.size W w')
theorem WayR.m {W w' : World} {F : Nat → Prop} {rs : List Dk.Bs} {v : Value} {m : Nat} (h : WayR W F rs v w') (hm : rs.length = m) : WayM W F rs m v w' := by subst hm; exact h
theorem OpOk.sl {B : Nat} {W : World} {x : Ox} (h : OpOk B W x) {F : Nat → Prop} (hF : ∀ i, F i → B ≤ i) : SlIn F W (.slice x.A x.m x.cap) x.l :=
  ⟨x.A, x.cap, by rw [h.len], by rw [h.len]; exact h.m0, by have := h.m1; unfold maxLen; omega, CellsIn.less h.bytes (fun i _ hi => hF i hi)⟩
theorem OpOk.by_ {B : Nat} {W : World} {x : Ox} (h : OpOk B W x) {F : Nat → Prop} (hF : ∀ i, F i → B ≤ i) : BytesIn F W x.A x.l := CellsIn.less h.bytes (fun i _ hi => hF i hi)

/-- behind the operations -/
structure TailS (w W : World) (g s n : Nat) (As Aw : Option Addr) (sure way : List Dk.Bs) (d : Dk.D) : Prop where
  run : Run w g s n W d
  st : Lg.Stands n d sure way
  rs : RowIn (Two g s) W As sure
  rw : RowIn (Two g s) W Aw way
  ls : sure.length ≤ 5000
  lw : way.length ≤ 5000
theorem TailS.step {w W W' : World} {g s n : Nat} {As Aw : Option Addr} {sure way : List Dk.Bs} {d d' : Dk.D} (h : TailS w W g s n As Aw sure way d) (hr : Run w g s n W' d') (hk : Kept (Two g s) W W') (hs : Lg.Stands n d' sure way) : TailS w W' g s n As Aw sure way d' :=
  ⟨hr, hs, h.rs.keep hk, h.rw.keep hk, h.ls, h.lw⟩
theorem TailS.below {w W W' : World} {g s n : Nat} {As Aw : Option Addr} {sure way : List Dk.Bs} {d : Dk.D} (h : TailS w W g s n As Aw sure way d) (hb : Below W.heap.size W W') : TailS w W' g s n As Aw sure way d :=
  h.step (h.run.below hb) (Kept.of_below hb) h.st
theorem RowIn.two {F : Nat → Prop} {g s : Nat} {W : World} {A : Option Addr} {rs : List Dk.Bs} (h : RowIn F W A rs) (hF : ∀ i, Two g s i → F i) : RowIn (Two g s) W A rs := h.less (fun i _ hi => hF i hi)
theorem OpsS.tail {w W : World} {F : Nat → Prop} {lb g s n : Nat} {As Aw : Option Addr} {x : Lg.L} {d : Dk.D} (h : OpsS w W F lb g s n As Aw x d) (hn : n ≤ 64) : TailS w W g s n As Aw x.recs x.recs d :=
  ⟨h.ll.run, h.go.stands _, h.rs.two h.ll.two, h.rw.two h.ll.two, by have := h.len; omega, by have := h.len; omega⟩

/-- an append in a region that draws, at a world that is written out -/
theorem step_append_at {P : Program} {w : World} {ops : Array Oper} {o : Oper} {a : Act} {K : Act → World → Prop} {Q : Exit → Act → World → Prop} {E : Prop} (W1 : World) (hw : w = W1) (hgd : o.guard = none) (s x : Operand) (t tn ty : TypeId)
    (ho : o.op = .call { callee := .builtin .append, args := #[s, x], argTypes := #[t, tn] }) (hty : o.type = ty) (vs vx : Value) (hs : a.eval s = vs) (hx : a.eval x = vx)
    (R : Value → World → Prop) (hr : ∃ v' w', (Builtin.append_ #[t, tn] ty #[vs, vx]).run P W1 = .ok v' w' ∧ R v' w')
    (h : ∀ v' w', R v' w' → K (a.put o.dst v') w') : if Region.wanted o (yielded ops a.tmps) = true then Oper.wp P o a w K Q else E := by
  subst hw hty
  exact step_append_run hgd s x t tn ho vs vx hs hx R hr h

/-- a box with a pair -/
def PrBox (w : World) (b : Nat) (x : Int × Int) : Prop := w.heap[b]? = some (.cells #[.int .i64 x.1, .int .i64 x.2] 50 (0, 0))
theorem PrBox.lt {w : World} {b : Nat} {x : Int × Int} (h : PrBox w b x) : b < w.heap.size := (Array.getElem?_eq_some_iff.1 h).1
theorem PrBox.keep {F : Nat → Prop} {w w' : World} {b : Nat} {x : Int × Int} (h : PrBox w b x) (hk : Kept F w w') (hn : ¬ F b) : PrBox w' b x := (hk.block b h.lt hn).trans h
theorem PrBox.c0 {w : World} {b : Nat} {x : Int × Int} (h : PrBox w b x) : w.cell? ⟨b, 0, none⟩ = some (.int .i64 x.1) := by rw [cell_of_row w b 0 _ _ _ h]; rfl
theorem PrBox.c1 {w : World} {b : Nat} {x : Int × Int} (h : PrBox w b x) : w.cell? ⟨b, 1, none⟩ = some (.int .i64 x.2) := by rw [cell_of_row w b 1 _ _ _ h]; rfl

/-- Same of a log's records and a row -/
theorem same_of (w W w' : World) (g s : Nat) (A B : Option Addr) (a b : List Dk.Bs) (c e : Nat) (ha : RowIn (fun i => i < W.heap.size) w' A a) (hF : ∀ i, Two g s i → i < W.heap.size) (hb : RowIn (Two g s) w' B b) (la : a.length ≤ 5000) (lb : b.length ≤ 5000) (r : Bool) (hr : decide (a = b) = r) :
    Calls Try.prog 24 #[.slice A a.length c, .slice B b.length e] w' fun e w'' => e = .returned (.bool r) ∧ ∃ q, w'' = w'.drewN q := by
  subst hr
  exact rsame_any (Two g s) A B a.length b.length c e a b w' rfl rfl (by omega) (by omega) (row_new ha hF) hb
end Go.Proofs.Ytoocifoglhhnmaa
