/- Rows of orders and of trucks of one's own, and a world's box that holds them: what an append makes of them. -/
import Derived.Test.YtbacakblboodeaaLoadCut
import Derived.Lib.AppendZerosOnto
import Derived.Deep.RegionLaw
import Derived.Deep.Heap
namespace Go.Proofs.Ytbacakblboodeaa
open Go.RowKit
set_option maxRecDepth 100000
set_option linter.unusedVariables false

def OwnR {α : Type} (f : α → List Int) (c : Nat) (T : TypeId) (W : World) (base : Nat) (v : Value) (l : List α) : Prop := W.ownsRow base T c v l.length ((l.flatMap f).map (Value.int .i64))
/-- where such a row lies -/
theorem OwnR.row {α : Type} {f : α → List Int} {c : Nat} {T : TypeId} {W : World} {base : Nat} {v : Value} {l : List α} (h : OwnR f c T W base v l) : ∃ A cp, v = .slice A l.length cp ∧ l.length ≤ cp ∧ cp ≤ maxLen ∧ IntsAt W A (l.flatMap f) ∧ ∀ ad, A = some ad → base ≤ ad.block ∧ ad.block < W.heap.size := by
  have h' := h
  rcases h'.2 with ⟨rfl, h2⟩ | ⟨g, cap, cur, rfl, hbg, hg, hnc, hcm, _⟩
  · have : l = [] := List.eq_nil_of_length_eq_zero h2
    subst this
    exact ⟨none, 0, rfl, Nat.le_refl _, by decide, IntsAt.nil _ _, fun ad e => by cases e⟩
  · refine ⟨_, cap, rfl, hnc, hcm, fun k z hz => ⟨_, rfl, h.cells (g := g) rfl k _ ?_⟩, fun ad e => ?_⟩
    · rw [List.getElem?_map, hz]
      rfl
    · obtain rfl := Option.some.inj e
      exact ⟨hbg, (Array.getElem?_eq_some_iff.1 hg).1⟩
theorem OwnR.blocks {α : Type} {f : α → List Int} {c : Nat} {T : TypeId} {W W' : World} {base : Nat} {v : Value} {l : List α} (h : OwnR f c T W base v l) (hb : ∀ k, base ≤ k → k < W.heap.size → W'.heap[k]? = W.heap[k]?) : OwnR f c T W' base v l := by
  obtain ⟨h1, h2⟩ := h
  refine ⟨h1, ?_⟩
  rcases h2 with h2 | ⟨g, cap, cur, hv, hg, hh, r⟩
  · exact .inl h2
  · exact .inr ⟨g, cap, cur, hv, hg, (hb g hg (Array.getElem?_eq_some_iff.1 hh).1).trans hh, r⟩
theorem OwnR.none {α : Type} (f : α → List Int) (c : Nat) (T : TypeId) (W : World) (base : Nat) : OwnR f c T W base (.slice .none 0 0) [] := ⟨by simp, .inl ⟨rfl, rfl⟩⟩

/-- what an append of one leaves -/
def AppR {α : Type} (f : α → List Int) (c : Nat) (T : TypeId) (W : World) (base : Nat) (l : List α) (v' : Value) (w' : World) : Prop := ∃ A cp, v' = .slice A l.length cp ∧ Hid (OwnR f c T w' base v' l ∧ Below base W w')
theorem own_app {α : Type} (f : α → List Int) (c : Nat) (hc : 0 < c) (hc2 : c ≤ 8) (hf : ∀ x, (f x).length = c) (T S : TypeId) (z : Value) (bytes : Nat) (hby : bytes ≤ 64) (hS : Try.prog.underlying S = some (.slice T)) (hi : (Try.prog.info? T).map (fun i => (i.zero, i.size, i.bytes)) = some (some z, c, bytes)) (hz : z.cells.size = c)
    {W : World} {base : Nat} {v : Value} {l : List α} (h : OwnR f c T W base v l) (hb : base ≤ W.heap.size) (x : α) (cs : Array Value) (hcs : cs = ((f x).map (Value.int .i64)).toArray) (hs : l.length ≤ 1000) :
    ∃ v' w', (Builtin.append_ #[S, S] S #[v, .slice (some ⟨W.heap.size, 0, none⟩) 1 1]).run Try.prog (W.alloc (.cells cs T)) = .ok v' w' ∧ AppR f c T W base (l ++ [x]) v' w' := by
  obtain ⟨i0, hi0, hz0, hz1, hz2⟩ := info_parts4 hi
  have hbx : Box (W.alloc (.cells cs T)) W.heap.size cs T := Box.new _ _ _
  obtain ⟨v', w', h1, h2, h3, _⟩ := run_append_own (P := Try.prog) (W.alloc (.cells cs T)) base S S T i0 _ c bytes hS hi0 hz0 hz1 hz2 hz hc v l.length ((l.flatMap f).map (Value.int .i64)) (h.blocks fun k _ hk => heap_alloc_old W _ hk) ⟨W.heap.size, 0, none⟩ 1 1 ((f x).map (Value.int .i64)) (by rw [List.length_map, hf, Nat.one_mul])
    (fun j u hu => by
      rw [Addr.add_mid, Nat.zero_add]
      exact hbx.cell j u (by rw [hcs]; simpa using hu)) (by intro y hy; obtain ⟨z, _, rfl⟩ := List.mem_map.1 hy; rfl) (by unfold maxLen; omega)
    (Nat.le_trans (Nat.mul_le_mul (show l.length + 1 ≤ 1001 by omega) hby) (by decide)) (Nat.le_trans hb (below_alloc W _).size)
  have ho : OwnR f c T w' base v' (l ++ [x]) := by
    unfold OwnR
    rw [List.length_append, List.flatMap_append, List.map_append]
    simpa using h2
  obtain ⟨A', cp, e, _⟩ := ho.row
  have hbl : Below base (W.alloc (.cells cs T)) w' := ⟨h3.os, h3.tape, h3.output, h3.size, fun k hk => h3.block k (Nat.lt_of_lt_of_le hk (Nat.le_trans hb (below_alloc W _).size)) (fun e => by
    obtain ⟨A2, c2, e2, _, _, _, hlt⟩ := h.row
    rw [e2] at e
    cases A2 with
    | none => cases e
    | some ad =>
      have := (hlt ad rfl).1
      have : k = ad.block := Option.some.inj e
      omega)⟩
  exact ⟨v', w', h1, A', cp, e, ho, ((below_alloc W _).mono hb).trans hbl⟩

theorem order_info : (Try.prog.info? 57).map (fun i => (i.zero, i.size, i.bytes)) = some (some (.agg #[.int .i64 0, .int .i64 0, .int .i64 0, .int .i64 0, .int .i64 0, .int .i64 0, .int .i64 0, .int .i64 0]), 8, 64) := by kernel_rfl
theorem truck_info : (Try.prog.info? 59).map (fun i => (i.zero, i.size, i.bytes)) = some (some (.agg #[.int .i64 0, .int .i64 0, .int .i64 0, .int .i64 0, .int .i64 0, .int .i64 0, .int .i64 0]), 7, 56) := by kernel_rfl
def OwnO (W : World) (base : Nat) (v : Value) (l : List Ld.O) : Prop := OwnR Ld.O.ints 8 57 W base v l
def OwnT (W : World) (base : Nat) (v : Value) (l : List Ld.T) : Prop := OwnR Ld.T.ints 7 59 W base v l

/-- append, as one step of a region that draws, at a world known by name -/
theorem step_append_w {P : Program} {w : World} {ops : Array Oper} {o : Oper} {a : Act} {K : Act → World → Prop} {Q : Exit → Act → World → Prop} {E : Prop} (W1 : World) (hw : w = W1) (hgd : o.guard = none) (s x : Operand) (t tn ty : TypeId)
    (ho : o.op = .call { callee := .builtin .append, args := #[s, x], argTypes := #[t, tn] }) (hty : o.type = ty) (vs vx : Value) (hs : a.eval s = vs) (hx : a.eval x = vx)
    (R : Value → World → Prop) (hr : ∃ v' w', (Builtin.append_ #[t, tn] ty #[vs, vx]).run P W1 = .ok v' w' ∧ R v' w')
    (h : ∀ v' w', R v' w' → K (a.put o.dst v') w') : if Region.wanted o (yielded ops a.tmps) = true then Oper.wp P o a w K Q else E := by
  subst hw hty
  obtain ⟨v', w', hr, h2⟩ := hr
  have hw : Region.wanted o (yielded ops a.tmps) = true := by simp [Region.wanted, hgd]
  rw [if_pos hw]
  unfold Oper.wp
  simp [execOp, ho, resolve, invoke, builtin, hs, hx, hr, Result.andThen]
  exact h v' w' h2

/-- the box of a world that is made, while its orders are put in -/
structure L1 (w1 : World) (g : Nat) (N : Int) (v1 v2 : Value) (X : Option Addr) (n cx : Nat) (ro : List Ld.O) (W : World) : Prop where
  bel : Below w1.heap.size w1 W
  glt : g < W.heap.size
  box : Box W g (wV N v1 v2 X n cx none 0 0) 28
  own : OwnO W (g + 1) (.slice X n cx) ro
theorem Box.fz {w : World} {b : Nat} {cs : Array Value} {t : TypeId} (h : Box w b cs t) (k : Nat) : w.frozen? ⟨b, k, none⟩ = false := by unfold World.frozen?; rw [show w.heap[b]? = _ from h]; simp
theorem Box.set {w : World} {b : Nat} {cs : Array Value} {t : TypeId} (h : Box w b cs t) (k : Nat) (v : Value) (cs' : Array Value) (e : cs.setIfInBounds k v = cs') : Box (w.setCell ⟨b, k, none⟩ v) b cs' t := by
  subst e
  unfold Box
  rw [setCell_eq_setRow w b k _ _ _ _ h, setRow_heap w b _ _ _ _ h]
theorem Box.old {w w' : World} {b : Nat} {cs : Array Value} {t : TypeId} (h : Box w b cs t) {B : Nat} (hb : Below B w w') (hB : b < B) : Box w' b cs t := (hb.block b hB).trans h

theorem L1.start {w1 : World} {N : Int} {v1 v2 : Value} : L1 w1 w1.heap.size N v1 v2 none 0 0 [] (w1.alloc (.cells #[.int .i64 N, v1, v2, .slice none 0 0, .slice none 0 0] 28)) :=
  ⟨below_alloc _ _, (Box.new _ _ _).lt, Box.new _ _ _, OwnR.none _ _ _ _ _⟩
theorem L1.step {w1 W w5 : World} {g : Nat} {N : Int} {v1 v2 : Value} {X A : Option Addr} {n cx cp : Nat} {ro : List Ld.O} {o : Ld.O} {n' : Nat} (hg : w1.heap.size ≤ g) (h : L1 w1 g N v1 v2 X n cx ro W) (ho : OwnO w5 (g + 1) (.slice A n' cp) (ro ++ [o])) (hb : Below (g + 1) W w5) :
    L1 w1 g N v1 v2 A n' cp (ro ++ [o]) (w5.setCell ⟨g, 3, none⟩ (.slice A n' cp)) := by
  have hbx := h.box.old hb (Nat.lt_succ_self g)
  refine ⟨?_, by rw [Go.Deep.nblk_setCell]; exact hbx.lt, hbx.set 3 _ _ rfl, ho.blocks fun k hk _ => Go.Deep.blk_setCell_other _ _ _ _ (by show k ≠ g; omega)⟩
  exact (h.bel.trans (hb.mono (by omega))).setCell (p := ⟨g, 3, none⟩) hg _
/-- the same, while its trucks are put in -/
structure L2 (w1 : World) (g B : Nat) (N : Int) (v1 v2 : Value) (X : Option Addr) (n cx : Nat) (ro : List Ld.O) (Y : Option Addr) (k cy : Nat) (rt : List Ld.T) (W : World) : Prop where
  bel : Below w1.heap.size w1 W
  gB : g < B
  hB : B ≤ W.heap.size
  box : Box W g (wV N v1 v2 X n cx Y k cy) 28
  ro : OrdersAt W X ro
  at_ : ∀ ad, X = some ad → g < ad.block ∧ ad.block < B
  own : OwnT W B (.slice Y k cy) rt
theorem OrdersAt.blocks {W W' : World} {X : Option Addr} {l : List Ld.O} (h : OrdersAt W X l) (hb : ∀ ad, X = some ad → W'.heap[ad.block]? = W.heap[ad.block]?) : OrdersAt W' X l := by
  intro j z hz
  obtain ⟨ad, e, hc⟩ := h j z hz
  refine ⟨ad, e, ?_⟩
  have hblk : (ad.add j).block = ad.block := by unfold Addr.add; split <;> rfl
  rw [World.cell?_of_block (w := W) (w' := W') (by rw [hblk]; exact hb ad e)]
  exact hc
theorem L2.start {w1 W : World} {g : Nat} {N : Int} {v1 v2 : Value} {X : Option Addr} {n cx : Nat} {ro : List Ld.O} (h : L1 w1 g N v1 v2 X n cx ro W) : L2 w1 g W.heap.size N v1 v2 X n cx ro none 0 0 [] W := by
  obtain ⟨A, cp, e, _, _, hi, hat⟩ := h.own.row
  injection e with e1 e2 e3
  subst e1
  exact ⟨h.bel, h.glt, Nat.le_refl _, h.box, hi, fun ad e => ⟨by have := (hat ad e).1; omega, (hat ad e).2⟩, OwnR.none _ _ _ _ _⟩
theorem L2.step {w1 W w5 : World} {g B : Nat} {N : Int} {v1 v2 : Value} {X Y A : Option Addr} {n cx k cy cp : Nat} {ro : List Ld.O} {rt : List Ld.T} {t : Ld.T} {n' : Nat} (hg : w1.heap.size ≤ g) (h : L2 w1 g B N v1 v2 X n cx ro Y k cy rt W) (ho : OwnT w5 B (.slice A n' cp) (rt ++ [t])) (hb : Below B W w5) :
    L2 w1 g B N v1 v2 X n cx ro A n' cp (rt ++ [t]) (w5.setCell ⟨g, 4, none⟩ (.slice A n' cp)) := by
  have hbx := h.box.old hb h.gB
  have hgB := h.gB
  refine ⟨?_, h.gB, by rw [Go.Deep.nblk_setCell]; exact Nat.le_trans h.hB hb.size, hbx.set 4 _ _ rfl, ?_, h.at_, ho.blocks fun k hk _ => Go.Deep.blk_setCell_other _ _ _ _ (by show k ≠ g; omega)⟩
  · exact (h.bel.trans (hb.mono (by omega))).setCell (p := ⟨g, 4, none⟩) hg _
  · refine h.ro.blocks fun ad e => ?_
    have hat := h.at_ ad e
    rw [Go.Deep.blk_setCell_other _ _ _ _ (by show ad.block ≠ g; omega)]
    exact hb.block _ hat.2
theorem drew_alloc (W : World) (o : Obj) : W.drew.alloc o = (W.alloc o).drew := rfl
/-- what putting one more order in leaves -/
def Put1 (w1 : World) (g : Nat) (N : Int) (v1 v2 : Value) (X : Option Addr) (n cx n' : Nat) (ro' : List Ld.O) (v' : Value) (w5 : World) : Prop :=
  ∃ A cp, v' = .slice A n' cp ∧ w5.cell? ⟨g, 3, none⟩ = some (.slice X n cx) ∧ w5.frozen? ⟨g, 3, none⟩ = false ∧ Hid (L1 w1 g N v1 v2 A n' cp ro' (w5.setCell ⟨g, 3, none⟩ (.slice A n' cp)))
theorem L1.put {w1 W : World} {g : Nat} {N : Int} {v1 v2 : Value} {X : Option Addr} {n cx : Nat} {ro : List Ld.O} (hg : w1.heap.size ≤ g) (h : L1 w1 g N v1 v2 X n cx ro W) (a0 a1 a2 a3 a4 a5 a6 a7 : Int) (ro' : List Ld.O) (n' : Nat) (hro : ro ++ [⟨a0, a1, a2, a3, a4, a5, a6, a7⟩] = ro') (hn : ro'.length = n') (hs : ro.length ≤ 1000) :
    ∃ v' w', (Builtin.append_ #[25, 25] 25 #[.slice X n cx, .slice (some ⟨W.heap.size, 0, none⟩) 1 1]).run Try.prog ((W.alloc (.cells #[.int .i64 a0, .int .i64 a1, .int .i64 a2, .int .i64 a3, .int .i64 a4, .int .i64 a5, .int .i64 a6, .int .i64 a7] 57)).drew) = .ok v' w' ∧ Put1 w1 g N v1 v2 X n cx n' ro' v' w' := by
  subst hro hn
  obtain ⟨v', w5, hr, A, cp, rfl, hf⟩ := own_app Ld.O.ints 8 (by omega) (by omega) oints_len 57 25 _ 64 (by omega) Try.underlying25 order_info rfl (W := W.drew) (base := g + 1) (l := ro) h.own h.glt ⟨a0, a1, a2, a3, a4, a5, a6, a7⟩ #[.int .i64 a0, .int .i64 a1, .int .i64 a2, .int .i64 a3, .int .i64 a4, .int .i64 a5, .int .i64 a6, .int .i64 a7] rfl hs
  rw [drew_alloc] at hr
  have hb : Below (g + 1) W w5 := ((Below.refl (g + 1) W).drew).trans hf.out.2
  have hbx : Box w5 g _ _ := h.box.old hb (Nat.lt_succ_self g)
  exact ⟨_, w5, hr, A, cp, rfl, hbx.cell 3 _ rfl, hbx.fz 3, L1.step hg h hf.out.1 hb⟩
/-- what putting one more truck in leaves -/
def Put2 (w1 : World) (g B : Nat) (N : Int) (v1 v2 : Value) (X : Option Addr) (n cx : Nat) (ro : List Ld.O) (Y : Option Addr) (k cy n' : Nat) (rt' : List Ld.T) (v' : Value) (w5 : World) : Prop :=
  ∃ A cp, v' = .slice A n' cp ∧ w5.cell? ⟨g, 4, none⟩ = some (.slice Y k cy) ∧ w5.frozen? ⟨g, 4, none⟩ = false ∧ Hid (L2 w1 g B N v1 v2 X n cx ro A n' cp rt' (w5.setCell ⟨g, 4, none⟩ (.slice A n' cp)))
theorem L2.put {w1 W : World} {g B : Nat} {N : Int} {v1 v2 : Value} {X Y : Option Addr} {n cx k cy : Nat} {ro : List Ld.O} {rt : List Ld.T} (hg : w1.heap.size ≤ g) (h : L2 w1 g B N v1 v2 X n cx ro Y k cy rt W) (a0 a1 a2 a3 a4 a5 a6 : Int) (rt' : List Ld.T) (n' : Nat) (hro : rt ++ [⟨a0, a1, a2, a3, a4, a5, a6⟩] = rt') (hn : rt'.length = n') (hs : rt.length ≤ 1000) :
    ∃ v' w', (Builtin.append_ #[26, 26] 26 #[.slice Y k cy, .slice (some ⟨W.heap.size, 0, none⟩) 1 1]).run Try.prog ((W.alloc (.cells #[.int .i64 a0, .int .i64 a1, .int .i64 a2, .int .i64 a3, .int .i64 a4, .int .i64 a5, .int .i64 a6] 59)).drew) = .ok v' w' ∧ Put2 w1 g B N v1 v2 X n cx ro Y k cy n' rt' v' w' := by
  subst hro hn
  obtain ⟨v', w5, hr, A, cp, rfl, hf⟩ := own_app Ld.T.ints 7 (by omega) (by omega) tints_len 59 26 _ 56 (by omega) Try.underlying26 truck_info rfl (W := W.drew) (base := B) (l := rt) h.own h.hB ⟨a0, a1, a2, a3, a4, a5, a6⟩ #[.int .i64 a0, .int .i64 a1, .int .i64 a2, .int .i64 a3, .int .i64 a4, .int .i64 a5, .int .i64 a6] rfl hs
  rw [drew_alloc] at hr
  have hb : Below B W w5 := ((Below.refl B W).drew).trans hf.out.2
  have hbx : Box w5 g _ _ := h.box.old hb h.gB
  exact ⟨_, w5, hr, A, cp, rfl, hbx.cell 4 _ rfl, hbx.fz 4, L2.step hg h hf.out.1 hb⟩
theorem L2.trucks {w1 W : World} {g B : Nat} {N : Int} {v1 v2 : Value} {X Y : Option Addr} {n cx k cy : Nat} {ro : List Ld.O} {rt : List Ld.T} (h : L2 w1 g B N v1 v2 X n cx ro Y k cy rt W) : rt.length = k ∧ TrucksAt W Y rt := by
  obtain ⟨A, cp, e, _, _, hi, _⟩ := h.own.row
  injection e with e1 e2 e3
  subst e1
  exact ⟨e2.symm, hi⟩
theorem L1.count {w1 W : World} {g : Nat} {N : Int} {v1 v2 : Value} {X : Option Addr} {n cx : Nat} {ro : List Ld.O} (h : L1 w1 g N v1 v2 X n cx ro W) : ro.length = n ∧ n ≤ cx := by
  obtain ⟨A, cp, e, hl, _⟩ := h.own.row
  injection e with e1 e2 e3
  subst e2 e3
  exact ⟨rfl, hl⟩
/-- a world that is made, and stands -/
structure Made (w1 : World) (g : Nat) (N : Int) (v1 v2 : Value) (X : Option Addr) (n cx : Nat) (ro : List Ld.O) (Y : Option Addr) (k cy : Nat) (rt : List Ld.T) (W : World) : Prop where
  bel : Below w1.heap.size w1 W
  box : Box W g (wV N v1 v2 X n cx Y k cy) 28
  ro : OrdersAt W X ro
  rt : TrucksAt W Y rt
theorem Made.below {w1 W W' : World} {g : Nat} {N : Int} {v1 v2 : Value} {X Y : Option Addr} {n cx k cy : Nat} {ro : List Ld.O} {rt : List Ld.T} (h : Made w1 g N v1 v2 X n cx ro Y k cy rt W) (hb : Below W.heap.size W W') : Made w1 g N v1 v2 X n cx ro Y k cy rt W' :=
  ⟨below_next h.bel hb, h.box.below hb, h.ro.below hb, h.rt.below hb⟩
theorem L2.made {w1 W : World} {g B : Nat} {N : Int} {v1 v2 : Value} {X Y : Option Addr} {n cx k cy : Nat} {ro : List Ld.O} {rt : List Ld.T} (h : L2 w1 g B N v1 v2 X n cx ro Y k cy rt W) : Made w1 g N v1 v2 X n cx ro Y k cy rt W := ⟨h.bel, h.box, h.ro, h.trucks.2⟩
theorem TrucksAt.blocks {W W' : World} {X : Option Addr} {l : List Ld.T} (h : TrucksAt W X l) (hb : ∀ ad, X = some ad → W'.heap[ad.block]? = W.heap[ad.block]?) : TrucksAt W' X l := by
  intro j z hz
  obtain ⟨ad, e, hc⟩ := h j z hz
  refine ⟨ad, e, ?_⟩
  have hblk : (ad.add j).block = ad.block := by unfold Addr.add; split <;> rfl
  rw [World.cell?_of_block (w := W) (w' := W') (by rw [hblk]; exact hb ad e)]
  exact hc
theorem L2.cut {w1 W w4 : World} {g B : Nat} {N : Int} {v1 v2 : Value} {X Y : Option Addr} {n cx k cy : Nat} {ro : List Ld.O} {rt : List Ld.T} (hg : w1.heap.size ≤ g) (h : L2 w1 g B N v1 v2 X n cx ro Y k cy rt W) (hb : Below W.heap.size W w4) (X' : Option Addr) (n1 c1 : Nat) (hX : ∀ U : World, OrdersAt U X ro → OrdersAt U X' (ro.drop 1)) :
    Made w1 g N v1 v2 X' n1 c1 (ro.drop 1) Y k cy rt (w4.setCell ⟨g, 3, none⟩ (.slice X' n1 c1)) := by
  have hm := h.made.below hb
  have hgB := h.gB
  obtain ⟨A, cp, e, _, _, hi, hat⟩ := h.own.row
  injection e with e1 e2 e3
  subst e1
  refine ⟨hm.bel.setCell (p := ⟨g, 3, none⟩) hg _, hm.box.set 3 _ _ rfl, hX _ (hm.ro.blocks fun ad e => ?_), hm.rt.blocks fun ad e => ?_⟩
  · have := (h.at_ ad e).1
    exact Go.Deep.blk_setCell_other _ _ _ _ (by show ad.block ≠ g; omega)
  · have := (hat ad e).1
    exact Go.Deep.blk_setCell_other _ _ _ _ (by show ad.block ≠ g; omega)
theorem rest_os (X : Option Addr) (n cx : Nat) (ro : List Ld.O) (hl : ro.length = n) (hn : 1 ≤ n) (hc : n ≤ cx) : ∃ X' c', (∀ W : World, (Instr.slice 25 (.slice X n cx) (some (.int .i64 1)) none none).run Try.prog W = .ok (.slice X' (n - 1) c') W) ∧ ∀ U : World, OrdersAt U X ro → OrdersAt U X' (ro.drop 1) := by
  obtain ⟨X', c', h1, h2⟩ := back_os X n cx 1 hc hn
  exact ⟨X', c', fun W => h1 W, fun U h => h2 U ro hl h⟩
end Go.Proofs.Ytbacakblboodeaa
