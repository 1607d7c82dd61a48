/- Contracts of package route: a trip while it is run: goTo, visit. -/
import Derived.Test.YtbacakblboodeaaLoadRow
import Derived.Test.YtbacakblboodeaaRouteA
namespace Go.Proofs.Ytbacakblboodeaa
open Go.RowKit
set_option linter.unusedVariables false
set_option maxRecDepth 100000

theorem visit_info : (Try.prog.info? 164).map (fun i => (i.zero, i.size, i.bytes)) = some (some (.agg #[.int .i64 0, .int .i64 0, .int .i64 0, .int .i64 0]), 4, 32) := by kernel_rfl

/-- nothing that was there has turned, but one block -/
structure But (g : Nat) (w w' : World) : Prop where
  size : w.heap.size ≤ w'.heap.size
  block : ∀ k, k < w.heap.size → k ≠ g → w'.heap[k]? = w.heap[k]?
theorem But.trans {g : Nat} {a b c : World} (h : But g a b) (k : But g b c) : But g a c := ⟨Nat.le_trans h.size k.size, fun i hi hg => (k.block i (Nat.lt_of_lt_of_le hi h.size) hg).trans (h.block i hi hg)⟩
theorem But.of {g : Nat} {w w' : World} (h : Below w.heap.size w w') : But g w w' := ⟨h.size, fun k hk _ => h.block k hk⟩
theorem But.set {g : Nat} {w w' : World} (h : But g w w') (k : Nat) (v : Value) : But g w (w'.setCell ⟨g, k, none⟩ v) :=
  ⟨by rw [Go.Deep.nblk_setCell]; exact h.size, fun i hi hg => (Go.Deep.blk_setCell_other _ _ _ _ (by show i ≠ g; exact hg)).trans (h.block i hi hg)⟩
theorem Box.but {w w' : World} {b g : Nat} {cs : Array Value} {t : TypeId} (h : Box w b cs t) (hb : But g w w') (hg : b ≠ g) : Box w' b cs t := (hb.block b h.lt hg).trans h

def OwnV (W : World) (base : Nat) (v : Value) (l : List Rt.V) : Prop := OwnR Rt.V.ints 4 164 W base v l

/-- a trip while it is run: where it is, its visits so far, and nothing older has turned -/
structure DS (w0 : World) (g : Nat) (s : Rt.S) (A : Option Addr) (n c : Nat) (vs : List Rt.V) (W : World) : Prop where
  bel : Below w0.heap.size w0 W
  hg : w0.heap.size ≤ g
  box : Box W g #[.int .i64 s.node, .int .i64 s.time, .int .i64 s.dist, .slice A n c] 149
  own : OwnV W (g + 1) (.slice A n c) vs
theorem DS.below {w0 W W' : World} {g : Nat} {s : Rt.S} {A : Option Addr} {n c : Nat} {vs : List Rt.V} (h : DS w0 g s A n c vs W) (hb : Below W.heap.size W W') : DS w0 g s A n c vs W' :=
  ⟨below_next h.bel hb, h.hg, h.box.below hb, h.own.blocks fun k _ hk => hb.block k hk⟩
theorem DS.drew {w0 W : World} {g : Nat} {s : Rt.S} {A : Option Addr} {n c : Nat} {vs : List Rt.V} (h : DS w0 g s A n c vs W) : DS w0 g s A n c vs W.drew := ⟨h.bel.drew, h.hg, h.box, h.own⟩
theorem DS.c0 {w0 W : World} {g : Nat} {s : Rt.S} {A : Option Addr} {n c : Nat} {vs : List Rt.V} (h : DS w0 g s A n c vs W) : W.cell? ⟨g, 0, none⟩ = some (.int .i64 s.node) := h.box.cell 0 _ rfl
theorem DS.c1 {w0 W : World} {g : Nat} {s : Rt.S} {A : Option Addr} {n c : Nat} {vs : List Rt.V} (h : DS w0 g s A n c vs W) : W.cell? ⟨g, 1, none⟩ = some (.int .i64 s.time) := h.box.cell 1 _ rfl
theorem DS.c2 {w0 W : World} {g : Nat} {s : Rt.S} {A : Option Addr} {n c : Nat} {vs : List Rt.V} (h : DS w0 g s A n c vs W) : W.cell? ⟨g, 2, none⟩ = some (.int .i64 s.dist) := h.box.cell 2 _ rfl
theorem DS.c3 {w0 W : World} {g : Nat} {s : Rt.S} {A : Option Addr} {n c : Nat} {vs : List Rt.V} (h : DS w0 g s A n c vs W) : W.cell? ⟨g, 3, none⟩ = some (.slice A n c) := h.box.cell 3 _ rfl
theorem DS.count {w0 W : World} {g : Nat} {s : Rt.S} {A : Option Addr} {n c : Nat} {vs : List Rt.V} (h : DS w0 g s A n c vs W) : vs.length = n ∧ n ≤ c ∧ VisAt W A vs ∧ ∀ ad, A = some ad → ad.block < W.heap.size := by
  obtain ⟨A', cp, e, h1, _, h2, h3⟩ := h.own.row
  injection e with e1 e2 e3
  subst e1 e2 e3
  exact ⟨rfl, h1, h2, fun ad e => (h3 ad e).2⟩
/-- a cell of it is written -/
theorem DS.put0 {w0 W : World} {g : Nat} {a b d : Int} {A : Option Addr} {n c : Nat} {vs : List Rt.V} (h : DS w0 g ⟨a, b, d⟩ A n c vs W) (z : Int) : DS w0 g ⟨z, b, d⟩ A n c vs (W.setCell ⟨g, 0, none⟩ (.int .i64 z)) :=
  ⟨h.bel.setCell (p := ⟨g, 0, none⟩) h.hg _, h.hg, h.box.set 0 _ _ rfl, h.own.blocks fun k hk _ => Go.Deep.blk_setCell_other _ _ _ _ (by show k ≠ g; omega)⟩
theorem DS.put1 {w0 W : World} {g : Nat} {a b d : Int} {A : Option Addr} {n c : Nat} {vs : List Rt.V} (h : DS w0 g ⟨a, b, d⟩ A n c vs W) (z : Int) : DS w0 g ⟨a, z, d⟩ A n c vs (W.setCell ⟨g, 1, none⟩ (.int .i64 z)) :=
  ⟨h.bel.setCell (p := ⟨g, 1, none⟩) h.hg _, h.hg, h.box.set 1 _ _ rfl, h.own.blocks fun k hk _ => Go.Deep.blk_setCell_other _ _ _ _ (by show k ≠ g; omega)⟩
theorem DS.put2 {w0 W : World} {g : Nat} {a b d : Int} {A : Option Addr} {n c : Nat} {vs : List Rt.V} (h : DS w0 g ⟨a, b, d⟩ A n c vs W) (z : Int) : DS w0 g ⟨a, b, z⟩ A n c vs (W.setCell ⟨g, 2, none⟩ (.int .i64 z)) :=
  ⟨h.bel.setCell (p := ⟨g, 2, none⟩) h.hg _, h.hg, h.box.set 2 _ _ rfl, h.own.blocks fun k hk _ => Go.Deep.blk_setCell_other _ _ _ _ (by show k ≠ g; omega)⟩
theorem DS.start (w : World) (st : Int) : DS w w.heap.size ⟨0, st, 0⟩ none 0 0 [] (w.alloc (.cells #[.int .i64 0, .int .i64 st, .int .i64 0, .slice none 0 0] 149)) :=
  ⟨below_alloc _ _, Nat.le_refl _, Box.new _ _ _, OwnR.none _ _ _ _ _⟩

set_option maxHeartbeats 2000000 in
theorem goTo_b (N : Int) (dA : Option Addr) (dm dc : Nat) (D : List Int) (tA : Option Addr) (tm tc : Nat) (T : List Int) (w0 : World) (g : Nat) (nd tim dis : Int) (A : Option Addr) (n c : Nat) (vs : List Rt.V) (nt dd tt : Int) (w : World)
    (h : AreaAt w dA dm D tA tm T) (hs : DS w0 g ⟨nd, tim, dis⟩ A n c vs w) (hl : Ar.legS N D T nd nt = (dd, tt, 0)) (t0 : 0 ≤ tim) (t1 : tim ≤ 100000000) (d0 : 0 ≤ dis) (d1 : dis ≤ 100000000) (a0 : 0 ≤ dd) (a1 : dd ≤ 1000000) (b0 : 0 ≤ tt) (b1 : tt ≤ 1000000) :
    Calls Try.prog 105 #[.pointer (some ⟨g, 0, none⟩), .agg #[.int .i64 N, .slice dA dm dc, .slice tA tm tc], .int .i64 nt] w fun e w' => e = .returned (.tuple #[]) ∧ Hid (DS w0 g ⟨nt, tim + tt, dis + dd⟩ A n c vs w' ∧ But g w w') := by
  have HB0 : Hid (Below w.heap.size w (w.alloc (.cells #[.int .i64 N, .slice dA dm dc, .slice tA tm tc] 24))) := below_alloc _ _
  have HX := Lib.hid (Boxed.new (N := N) (dc := dc) (tc := tc) h)
  have HS := Lib.hid (hs.below (below_alloc w (.cells #[.int .i64 N, .slice dA dm dc, .slice tA tm tc] 24)))
  have HL := Lib.hid hl
  clear h hs hl
  go_enter Try.func105, Try.ntmps105
  go_wp2_with fail
  generalize w.alloc (.cells #[.int .i64 N, .slice dA dm dc, .slice tA tm tc] 24) = V at *
  generalize w.heap.size = b at HX ⊢
  have x0 := HX.out.c0
  have x1 := HX.out.c1
  have x2 := HX.out.c2
  have x3 : V.cell? ⟨g, 0, none⟩ = some (.int .i64 nd) := HS.out.c0
  have hB := (Below.refl V.heap.size V).drew
  have HC : Hid (∀ U : World, (U.cell? ⟨b, 0, none⟩ = some (.int .i64 N) ∧ U.cell? ⟨b, 1, none⟩ = some (.slice dA dm dc) ∧ U.cell? ⟨b, 2, none⟩ = some (.slice tA tm tc) ∧ U.cell? ⟨g, 0, none⟩ = some (.int .i64 nd) ∧ Below V.heap.size V U) →
      Calls Try.prog 47 #[.agg #[.int .i64 N, .slice dA dm dc, .slice tA tm tc], .int .i64 nd, .int .i64 nt] U fun e U => e = .returned (.tuple #[.int .i64 dd, .int .i64 tt, .int .i64 0]) ∧ U.cell? ⟨b, 0, none⟩ = some (.int .i64 N) ∧ U.cell? ⟨b, 1, none⟩ = some (.slice dA dm dc) ∧ U.cell? ⟨b, 2, none⟩ = some (.slice tA tm tc) ∧ U.cell? ⟨g, 0, none⟩ = some (.int .i64 nd) ∧ Below V.heap.size V U) := by
    rintro U ⟨_, _, _, _, hU⟩
    refine (leg_any N dA dm dc D tA tm tc T nd nt U (HX.out.rows.below hU)).mono ?_
    rintro e U' ⟨e1, e2⟩
    have hU' := below_next hU e2
    rw [HL.out] at e1
    exact ⟨e1, (HX.out.below hU').c0, (HX.out.below hU').c1, (HX.out.below hU').c2, (HS.out.below hU').c0, hU'⟩
  go_wp2
  go_region_held3 (fun U : World => U.cell? ⟨b, 0, none⟩ = some (.int .i64 N) ∧ U.cell? ⟨b, 1, none⟩ = some (.slice dA dm dc) ∧ U.cell? ⟨b, 2, none⟩ = some (.slice tA tm tc) ∧ U.cell? ⟨g, 0, none⟩ = some (.int .i64 nd) ∧ Below V.heap.size V U) (first | exact ⟨x0, x1, x2, x3, hB⟩ | exact ⟨k0, k1, k2, k3, kb⟩ | assumption)
    (first
      | (go_at_call 47; ((with_reducible refine (HC.out _ (by assumption)).mono ?_)); rintro e w3 ⟨rfl, k0, k1, k2, k3, kb⟩))
  all_goals
    have HS3 := Lib.hid (HS.out.below kb)
    have HB3 := Lib.hid (But.of (g := g) (below_next HB0.out kb))
    clear k0 k1 k2 k3 kb x0 x1 x2 x3 hB HC
    have y1 : w3.cell? ⟨g, 1, none⟩ = some (.int .i64 tim) := HS3.out.c1
    have y2 : w3.cell? ⟨g, 2, none⟩ = some (.int .i64 dis) := HS3.out.c2
    have y0 : w3.cell? ⟨g, 0, none⟩ = some (.int .i64 nd) := HS3.out.c0
    have f0 := HS3.out.box.fz 0
    have f1 := HS3.out.box.fz 1
    have f2 := HS3.out.box.fz 2
    go_wp2
    go_end0
    exact ⟨rfl, ((HS3.out.put0 nt).put1 _).put2 _, ((HB3.out.set 0 _).set 1 _).set 2 _⟩
/-- what an append of one visit leaves: no other block has turned -/
def AppV (W : World) (base : Nat) (A : Option Addr) (l : List Rt.V) (v' : Value) (w' : World) : Prop := ∃ A' cp, v' = .slice A' l.length cp ∧ Hid (OwnV w' base v' l ∧ Below base W w' ∧ ∀ k, k < W.heap.size → (∀ ad, A = some ad → ad.block ≠ k) → w'.heap[k]? = W.heap[k]?)
theorem visit_app {W : World} {base : Nat} {A : Option Addr} {n c : Nat} {l : List Rt.V} (h : OwnV W base (.slice A n c) l) (hb : base ≤ W.heap.size) (v0 v1 v2 v3 : Int) (hs : l.length ≤ 1000) :
    ∃ v' w', (Builtin.append_ #[92, 92] 92 #[.slice A n c, .slice (some ⟨W.heap.size, 0, none⟩) 1 1]).run Try.prog (W.alloc (.cells #[.int .i64 v0, .int .i64 v1, .int .i64 v2, .int .i64 v3] 164)) = .ok v' w' ∧ AppV W base A (l ++ [⟨v0, v1, v2, v3⟩]) v' w' := by
  obtain ⟨i0, hi0, hz0, hz1, hz2⟩ := info_parts4 visit_info
  have hbx : Box (W.alloc (.cells #[.int .i64 v0, .int .i64 v1, .int .i64 v2, .int .i64 v3] 164)) W.heap.size #[.int .i64 v0, .int .i64 v1, .int .i64 v2, .int .i64 v3] 164 := Box.new _ _ _
  obtain ⟨v', w', h1, h2, h3, _⟩ := run_append_own (P := Try.prog) (W.alloc (.cells #[.int .i64 v0, .int .i64 v1, .int .i64 v2, .int .i64 v3] 164)) base 92 92 164 i0 _ 4 32 Try.underlying92 hi0 hz0 hz1 hz2 rfl (by omega) (.slice A n c) l.length ((l.flatMap Rt.V.ints).map (Value.int .i64)) (h.blocks fun k _ hk => heap_alloc_old W _ hk) ⟨W.heap.size, 0, none⟩ 1 1 ((Rt.V.ints ⟨v0, v1, v2, v3⟩).map (Value.int .i64)) rfl
    (fun j u hu => by
      rw [Addr.add_mid, Nat.zero_add]
      exact hbx.cell j u (by simpa [Rt.V.ints] using hu)) (by intro y hy; obtain ⟨z, _, rfl⟩ := List.mem_map.1 hy; rfl) (by unfold maxLen; omega)
    (Nat.le_trans (Nat.mul_le_mul (show l.length + 1 ≤ 1001 by omega) (Nat.le_refl 32)) (by decide)) (Nat.le_trans hb (below_alloc W _).size)
  have ho : OwnV w' base v' (l ++ [⟨v0, v1, v2, v3⟩]) := by
    unfold OwnV OwnR
    rw [List.length_append, List.flatMap_append, List.map_append]
    simpa using h2
  obtain ⟨A', cp, e, _⟩ := ho.row
  have hk : ∀ k, k < W.heap.size → (∀ ad, A = some ad → ad.block ≠ k) → w'.heap[k]? = W.heap[k]? := fun k hk hA => by
    rw [h3.block k (Nat.lt_of_lt_of_le hk (below_alloc W _).size) (fun e => by
      cases A with
      | none => cases e
      | some ad => exact hA ad rfl (Option.some.inj e).symm)]
    exact heap_alloc_old W _ hk
  obtain ⟨A2, c2, e2, _, _, _, hlt⟩ := h.row
  injection e2 with e2 _ _
  subst e2
  refine ⟨v', w', h1, A', cp, e, ho, ?_, hk⟩
  exact ⟨h3.os, h3.tape, h3.output, Nat.le_trans (below_alloc W _).size h3.size, fun k hkb => hk k (Nat.lt_of_lt_of_le hkb hb) (fun ad e => by have := (hlt ad e).1; omega)⟩

/-- what putting one more visit in leaves -/
def PutV (w0 : World) (g : Nat) (s : Rt.S) (X : Option Addr) (n cx n' : Nat) (vs' : List Rt.V) (b : Nat) (cs : Array Value) (v' : Value) (w5 : World) : Prop :=
  ∃ A cp, v' = .slice A n' cp ∧ w5.cell? ⟨g, 3, none⟩ = some (.slice X n cx) ∧ w5.frozen? ⟨g, 3, none⟩ = false ∧ Hid (DS w0 g s A n' cp vs' (w5.setCell ⟨g, 3, none⟩ (.slice A n' cp)) ∧ Box (w5.setCell ⟨g, 3, none⟩ (.slice A n' cp)) b cs 57)
theorem DS.put {w0 W : World} {g : Nat} {s : Rt.S} {X : Option Addr} {n cx : Nat} {vs : List Rt.V} (h : DS w0 g s X n cx vs W) (v0 v1 v2 v3 : Int) (vs' : List Rt.V) (n' : Nat) (hvs : vs ++ [⟨v0, v1, v2, v3⟩] = vs') (hn : vs'.length = n') (hs : vs.length ≤ 1000) (b : Nat) (cs : Array Value) (hb : Box W b cs 57) (hbg : b ≠ g) (hbX : ∀ ad, X = some ad → ad.block ≠ b) :
    ∃ v' w', (Builtin.append_ #[92, 92] 92 #[.slice X n cx, .slice (some ⟨W.heap.size, 0, none⟩) 1 1]).run Try.prog ((W.alloc (.cells #[.int .i64 v0, .int .i64 v1, .int .i64 v2, .int .i64 v3] 164)).drew) = .ok v' w' ∧ PutV w0 g s X n cx n' vs' b cs v' w' := by
  subst hvs hn
  obtain ⟨v', w5, hr, A, cp, rfl, hf⟩ := visit_app (W := W.drew) (base := g + 1) h.own h.box.lt v0 v1 v2 v3 hs
  rw [drew_alloc] at hr
  obtain ⟨f1, f2, f3⟩ := hf.out
  have hb5 : Below (g + 1) W w5 := ((Below.refl (g + 1) W).drew).trans f2
  have hbx : Box w5 g _ _ := h.box.old hb5 (Nat.lt_succ_self g)
  have hbo : Box w5 b cs 57 := (f3 b hb.lt hbX).trans hb
  have hgg := h.hg
  refine ⟨_, w5, hr, A, cp, rfl, hbx.cell 3 _ rfl, hbx.fz 3, ⟨?_, h.hg, hbx.set 3 _ _ rfl, f1.blocks fun k hk _ => Go.Deep.blk_setCell_other _ _ _ _ (by show k ≠ g; omega)⟩, ?_⟩
  · exact (h.bel.trans (hb5.mono (by omega))).setCell (p := ⟨g, 3, none⟩) h.hg _
  · exact (Go.Deep.blk_setCell_other _ _ _ _ (by show b ≠ g; exact hbg)).trans hbo

theorem max_cases (a b : Int) : (max a b = a ∧ ¬ a < b ∧ b ≤ a) ∨ (max a b = b ∧ a < b ∧ ¬ b ≤ a) := by omega

set_option maxHeartbeats 4000000 in
theorem visit_b (N : Int) (dA : Option Addr) (dm dc : Nat) (D : List Int) (tA : Option Addr) (tm tc : Nat) (T : List Int) (w0 : World) (g : Nat) (nd tim dis : Int) (A : Option Addr) (n c : Nat) (vs : List Rt.V) (a0 a1 a2 a3 a4 a5 a6 a7 dd tt y : Int) (r : Bool) (n' : Nat) (vs' : List Rt.V) (w : World)
    (h : AreaAt w dA dm D tA tm T) (hs : DS w0 g ⟨nd, tim, dis⟩ A n c vs w) (hl : Ar.legS N D T nd a2 = (dd, tt, 0)) (t0 : 0 ≤ tim) (t1 : tim ≤ 90000000) (d0 : 0 ≤ dis) (d1 : dis ≤ 90000000) (b0 : 0 ≤ dd) (b1 : dd ≤ 1000000) (b2 : 0 ≤ tt) (b3 : tt ≤ 1000000)
    (o5 : 0 ≤ a5) (o5a : a5 ≤ 1000000) (o7 : 0 ≤ a7) (o7a : a7 ≤ 10000) (hy : max (tim + tt) a5 = y) (hr : decide (y ≤ a6) = r) (hvs : vs ++ [⟨a0, tim + tt, y, y + a7⟩] = vs') (hn : vs'.length = n') (hs1 : vs.length ≤ 1000) :
    Calls Try.prog 104 #[.pointer (some ⟨g, 0, none⟩), .agg #[.int .i64 N, .slice dA dm dc, .slice tA tm tc], .agg #[.int .i64 a0, .int .i64 a1, .int .i64 a2, .int .i64 a3, .int .i64 a4, .int .i64 a5, .int .i64 a6, .int .i64 a7]] w fun e w' => ∃ A' c', e = .returned (.bool r) ∧ Hid (DS w0 g ⟨a2, y + a7, dis + dd⟩ A' n' c' vs' w') := by
  have HX : Hid (Boxed ((w.alloc (.cells #[.int .i64 N, .slice dA dm dc, .slice tA tm tc] 24)).alloc (.cells #[.int .i64 a0, .int .i64 a1, .int .i64 a2, .int .i64 a3, .int .i64 a4, .int .i64 a5, .int .i64 a6, .int .i64 a7] 57)) w.heap.size N dA dm dc D tA tm tc T) := (Boxed.new (N := N) (dc := dc) (tc := tc) h).below (below_alloc _ _)
  have HO : Hid (Box ((w.alloc (.cells #[.int .i64 N, .slice dA dm dc, .slice tA tm tc] 24)).alloc (.cells #[.int .i64 a0, .int .i64 a1, .int .i64 a2, .int .i64 a3, .int .i64 a4, .int .i64 a5, .int .i64 a6, .int .i64 a7] 57)) (w.heap.size + 1) #[.int .i64 a0, .int .i64 a1, .int .i64 a2, .int .i64 a3, .int .i64 a4, .int .i64 a5, .int .i64 a6, .int .i64 a7] 57) := by
    rw [size_one w (.cells #[.int .i64 N, .slice dA dm dc, .slice tA tm tc] 24)]
    exact Box.new _ _ _
  have HS := Lib.hid (hs.below (below_more (below_alloc w (.cells #[.int .i64 N, .slice dA dm dc, .slice tA tm tc] 24)) (.cells #[.int .i64 a0, .int .i64 a1, .int .i64 a2, .int .i64 a3, .int .i64 a4, .int .i64 a5, .int .i64 a6, .int .i64 a7] 57)))
  have HG : Hid (w.heap.size + 1 ≠ g ∧ ∀ ad, A = some ad → ad.block ≠ w.heap.size + 1) := by
    have h1 := hs.box.lt
    have h2 := hs.count.2.2.2
    exact ⟨by omega, fun ad e => by have := h2 ad e; omega⟩
  have HL := Lib.hid hl
  have HVS := Lib.hid hvs
  have HN := Lib.hid hn
  clear h hs hl hvs hn
  go_enter Try.func104, Try.ntmps104
  go_wp2_with fail
  generalize (w.alloc (.cells #[.int .i64 N, .slice dA dm dc, .slice tA tm tc] 24)).alloc (.cells #[.int .i64 a0, .int .i64 a1, .int .i64 a2, .int .i64 a3, .int .i64 a4, .int .i64 a5, .int .i64 a6, .int .i64 a7] 57) = V at *
  generalize w.heap.size + 1 = ob at *
  generalize w.heap.size = ab at *
  have x0 : V.drew.cell? ⟨ab, 0, none⟩ = some (.int .i64 N) := HX.out.c0
  have x1 : V.drew.cell? ⟨ab, 1, none⟩ = some (.slice dA dm dc) := HX.out.c1
  have x2 : V.drew.cell? ⟨ab, 2, none⟩ = some (.slice tA tm tc) := HX.out.c2
  have x3 : V.drew.cell? ⟨ob, 2, none⟩ = some (.int .i64 a2) := HO.out.cell 2 _ rfl
  have HC := Lib.hid (goTo_b N dA dm dc D tA tm tc T w0 g nd tim dis A n c vs a2 dd tt V.drew (HX.out.rows.below (Below.refl _ _).drew) HS.out.drew HL.out t0 (by omega) d0 (by omega) b0 b1 b2 b3)
  have z0 : 0 ≤ tim + tt := by omega
  have z1 : tim + tt ≤ 91000000 := by omega
  generalize hz : tim + tt = z at *
  have HZ := Lib.hid hz
  clear hz
  go_still_tail 6, (by kernel_rfl)
  go_wp2_with fail
  with_reducible refine HC.out.mono ?_
  rintro e w3 ⟨rfl, h3⟩
  have HS3 := Lib.hid h3.out.1
  have HO3 : Hid (Box w3 ob #[.int .i64 a0, .int .i64 a1, .int .i64 a2, .int .i64 a3, .int .i64 a4, .int .i64 a5, .int .i64 a6, .int .i64 a7] 57) := Box.but (w := V.drew) HO.out h3.out.2 HG.out.1
  clear h3 HC x0 x1 x2 x3
  have y1 : w3.cell? ⟨g, 1, none⟩ = some (.int .i64 z) := HS3.out.c1
  have f1 := HS3.out.box.fz 1
  have y5 : w3.cell? ⟨ob, 5, none⟩ = some (.int .i64 a5) := HO3.out.cell 5 _ rfl
  have y7 : w3.cell? ⟨ob, 7, none⟩ = some (.int .i64 a7) := HO3.out.cell 7 _ rfl
  have HS4 := Lib.hid (HS3.out.put1 (y + a7))
  have HO4 : Hid (Box (w3.setCell ⟨g, 1, none⟩ (.int .i64 (y + a7))) ob #[.int .i64 a0, .int .i64 a1, .int .i64 a2, .int .i64 a3, .int .i64 a4, .int .i64 a5, .int .i64 a6, .int .i64 a7] 57) := (Go.Deep.blk_setCell_other _ _ _ _ HG.out.1).trans HO3.out
  obtain ⟨hm1, rfl⟩ | ⟨hm1, rfl⟩ : (a5 ≤ z ∧ y = z) ∨ (z < a5 ∧ y = a5) := by omega
  · clear hy
    have hm2 : ¬ y < a5 := by omega
    have bz0 : 0 ≤ y + a7 := by omega
    have bz1 : y + a7 ≤ 92000000 := by omega
    cases r
    all_goals
      go_wp2_with fail
      generalize w3.setCell ⟨g, 1, none⟩ (.int .i64 (y + a7)) = W4 at *
      have HA := Lib.hid (HS4.out.put a0 y y (y + a7) vs' n' HVS.out HN.out hs1 ob _ HO4.out HG.out.1 HG.out.2)
      have c0 : W4.cell? ⟨ob, 0, none⟩ = some (.int .i64 a0) := HO4.out.cell 0 _ rfl
      have c3 : W4.cell? ⟨g, 3, none⟩ = some (.slice A n c) := HS4.out.c3
      have c3a : (W4.alloc (.cells #[.int .i64 a0, .int .i64 y, .int .i64 y, .int .i64 (y + a7)] 164)).cell? ⟨g, 3, none⟩ = some (.slice A n c) := by rw [(below_alloc W4 _).cell (p := ⟨g, 3, none⟩) HS4.out.box.lt]; exact c3
      clear HS4 HO4 HS3 HO3 y1 f1 y5 y7 HS HX HO
      go_wp2
      go_region_law (first
        | (refine step_append_w ((W4.alloc (.cells #[.int .i64 a0, .int .i64 y, .int .i64 y, .int .i64 (y + a7)] 164)).drew) (by with_reducible rfl) (by rfl) (.tmp 39) (.tmp 46) 92 92 92 (by rfl) (by rfl) (.slice A n c) (.slice (some ⟨W4.heap.size, 0, none⟩) 1 1) (by rfl) (by rfl) _ HA.out ?_
           rintro v2 w5 ⟨A', cp, rfl, u1, u2, u3⟩))
      all_goals
        have c6 : (w5.setCell ⟨g, 3, none⟩ (.slice A' n' cp)).cell? ⟨ob, 6, none⟩ = some (.int .i64 a6) := u3.out.2.cell 6 _ rfl
        have HU := Lib.hid u3.out.1
        clear u1 u2 u3 c0 c3 c3a HA
        go_wp2
        go_ret
        exact ⟨A', cp, rfl, HU.out⟩
  · clear hy
    have hm2 : ¬ y ≤ z := by omega
    have bz0 : 0 ≤ y + a7 := by omega
    have bz1 : y + a7 ≤ 92000000 := by omega
    cases r
    all_goals
      go_wp2_with fail
      generalize w3.setCell ⟨g, 1, none⟩ (.int .i64 (y + a7)) = W4 at *
      have HA := Lib.hid (HS4.out.put a0 z y (y + a7) vs' n' HVS.out HN.out hs1 ob _ HO4.out HG.out.1 HG.out.2)
      have c0 : W4.cell? ⟨ob, 0, none⟩ = some (.int .i64 a0) := HO4.out.cell 0 _ rfl
      have c3 : W4.cell? ⟨g, 3, none⟩ = some (.slice A n c) := HS4.out.c3
      have c3a : (W4.alloc (.cells #[.int .i64 a0, .int .i64 z, .int .i64 y, .int .i64 (y + a7)] 164)).cell? ⟨g, 3, none⟩ = some (.slice A n c) := by rw [(below_alloc W4 _).cell (p := ⟨g, 3, none⟩) HS4.out.box.lt]; exact c3
      clear HS4 HO4 HS3 HO3 y1 f1 y5 y7 HS HX HO
      go_wp2
      go_region_law (first
        | (refine step_append_w ((W4.alloc (.cells #[.int .i64 a0, .int .i64 z, .int .i64 y, .int .i64 (y + a7)] 164)).drew) (by with_reducible rfl) (by rfl) (.tmp 39) (.tmp 46) 92 92 92 (by rfl) (by rfl) (.slice A n c) (.slice (some ⟨W4.heap.size, 0, none⟩) 1 1) (by rfl) (by rfl) _ HA.out ?_
           rintro v2 w5 ⟨A', cp, rfl, u1, u2, u3⟩))
      all_goals
        have c6 : (w5.setCell ⟨g, 3, none⟩ (.slice A' n' cp)).cell? ⟨ob, 6, none⟩ = some (.int .i64 a6) := u3.out.2.cell 6 _ rfl
        have HU := Lib.hid u3.out.1
        clear u1 u2 u3 c0 c3 c3a HA
        go_wp2
        go_ret
        exact ⟨A', cp, rfl, HU.out⟩
end Go.Proofs.Ytbacakblboodeaa
