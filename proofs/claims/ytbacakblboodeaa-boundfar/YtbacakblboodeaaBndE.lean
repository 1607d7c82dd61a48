/- A certificate as it lies, and while it is made. -/
import Derived.Test.YtbacakblboodeaaBndD
import Derived.Laws.ResultCell
import Derived.Laws.Rows
namespace Go.Proofs.Ytbacakblboodeaa
open Go.RowKit
set_option linter.unusedVariables false
set_option maxRecDepth 100000

/-- an append to a row of numbers of one's own, and where that lies -/
theorem ownn_app_at {W : World} {base : Nat} {v : Value} {l : List Int} (h : OwnN W base v l) (hb : base ≤ W.heap.size) (A : Option Addr) (m c : Nat) (b : List Int) (hm : b.length = m) (hby : IntsAt W A b) (hs : l.length + m ≤ 100000) (M : Nat) (hM : (l ++ b).length = M) :
    ∃ v' w', (Builtin.append_ #[22, 22] 22 #[v, .slice A m c]).run Try.prog W = .ok v' w' ∧ (∃ A' c', v' = .slice A' M c') ∧ Hid (OwnN w' base v' (l ++ b) ∧ Below base W w' ∧ (∀ k, k < W.heap.size → v.ownBlock ≠ some k → w'.heap[k]? = W.heap[k]?) ∧ W.heap.size ≤ w'.heap.size ∧ (v'.ownBlock = v.ownBlock ∨ v'.ownBlock = some W.heap.size)) := by
  obtain ⟨i0, hi0, hz0, hz1, hz2⟩ := info_parts4 int64_info
  have hM' : l.length + m = M := by rw [← hM, List.length_append, hm]
  cases A with
  | none =>
    have hl0 : b = [] := by
      cases b with
      | nil => rfl
      | cons z b =>
        obtain ⟨ad, h1, _⟩ := hby 0 z rfl
        cases h1
    subst hl0
    obtain rfl : m = 0 := by simpa using hm.symm
    obtain rfl : l.length = M := by simpa using hM
    rw [List.append_nil]
    obtain ⟨A', c', e, _⟩ := h.ints
    refine ⟨v, W, ?_, ⟨A', c', e⟩, h, Below.refl _ _, fun _ _ _ => rfl, Nat.le_refl _, .inl rfl⟩
    rcases h.2 with ⟨rfl, h0⟩ | ⟨g, cap, cur, rfl, _, _, hnc, _⟩
    · simp [Builtin.append_, run_underlying Try.underlying22, sizeOf, typeInfo, hi0, Builtin.lenOf, Builtin.firstCells]
    · simp [Builtin.append_, run_underlying Try.underlying22, sizeOf, typeInfo, hi0, Builtin.lenOf, Builtin.firstCells, hnc, storeCells]
  | some ad =>
    obtain ⟨v', w', h1, h2, h3, _, h5⟩ := run_append_own_at (P := Try.prog) W base 22 22 2 i0 _ 1 8 Try.underlying22 hi0 hz0 hz1 hz2 rfl (by omega) v l.length (l.map (Value.int .i64)) h ad m c (b.map (Value.int .i64)) (by rw [List.length_map, hm, Nat.mul_one])
      (fun j u hu => by
        rw [List.getElem?_map] at hu
        cases hz : b[j]? with
        | none => rw [hz] at hu; cases hu
        | some z =>
          rw [hz] at hu
          obtain rfl := Option.some.inj hu
          obtain ⟨ad', e, hc⟩ := hby j z hz
          obtain rfl := Option.some.inj e
          exact hc) (by intro x hx; obtain ⟨z, _, rfl⟩ := List.mem_map.1 hx; rfl) (by unfold maxLen; omega) (by omega) hb
    have ho : OwnN w' base v' (l ++ b) := by unfold OwnN; rw [List.length_append, hm, List.map_append]; exact h2
    obtain ⟨A', c', e, _⟩ := ho.ints
    rw [hM] at e
    refine ⟨v', w', h1, ⟨A', c', e⟩, ho, ?_, fun k hk hv => h3.block k hk (fun e => hv e.symm), h3.size, h5⟩
    exact ⟨h3.os, h3.tape, h3.output, h3.size, fun k hk => h3.block k (Nat.lt_of_lt_of_le hk hb) (fun e => by have := (h.lt k e.symm).1; omega)⟩


structure Ct where
  iA : Option Addr
  im : Nat
  ic : Nat
  ids : List Int
  nA : Option Addr
  nm : Nat
  nc : Nat
  inn : List Int
  back : Int
  rate : Int
  fixed : Int
  bound : Int
def Ct.c (q : Ct) : Bo.C := ⟨q.ids, q.inn, q.back, q.rate, q.fixed, q.bound⟩
def Ct.cells (q : Ct) : Array Value := #[.slice q.iA q.im q.ic, .slice q.nA q.nm q.nc, .int .i64 q.back, .int .i64 q.rate, .int .i64 q.fixed, .int .i64 q.bound]
structure CtAt (w : World) (q : Ct) : Prop where
  il : q.ids.length = q.im
  i2 : q.im ≤ 900
  ii : IntsAt w q.iA q.ids
  nl : q.inn.length = q.nm
  n2 : q.nm ≤ 900
  nn : IntsAt w q.nA q.inn
theorem CtAt.below {w w' : World} {q : Ct} (h : CtAt w q) (hb : Below w.heap.size w w') : CtAt w' q := ⟨h.il, h.i2, h.ii.below hb, h.nl, h.n2, h.nn.below hb⟩
theorem CtAt.drew {w : World} {q : Ct} (h : CtAt w q) : CtAt w.drew q := h.below (Below.refl _ _).drew
structure CX (w : World) (b : Nat) (q : Ct) : Prop where
  box : Box w b q.cells 31
  at_ : CtAt w q
theorem CX.below {w w' : World} {b : Nat} {q : Ct} (h : CX w b q) (hb : Below w.heap.size w w') : CX w' b q := ⟨h.box.below hb, h.at_.below hb⟩
theorem CX.new {w : World} {q : Ct} (h : CtAt w q) : CX (w.alloc (.cells #[.slice q.iA q.im q.ic, .slice q.nA q.nm q.nc, .int .i64 q.back, .int .i64 q.rate, .int .i64 q.fixed, .int .i64 q.bound] 31)) w.heap.size q := ⟨Box.new w _ _, h.below (below_alloc _ _)⟩
theorem CX.c0 {w : World} {b : Nat} {q : Ct} (h : CX w b q) : w.cell? ⟨b, 0, none⟩ = some (.slice q.iA q.im q.ic) := h.box.cell 0 _ rfl
theorem CX.c1 {w : World} {b : Nat} {q : Ct} (h : CX w b q) : w.cell? ⟨b, 1, none⟩ = some (.slice q.nA q.nm q.nc) := h.box.cell 1 _ rfl
theorem CX.c2 {w : World} {b : Nat} {q : Ct} (h : CX w b q) : w.cell? ⟨b, 2, none⟩ = some (.int .i64 q.back) := h.box.cell 2 _ rfl
theorem CX.c3 {w : World} {b : Nat} {q : Ct} (h : CX w b q) : w.cell? ⟨b, 3, none⟩ = some (.int .i64 q.rate) := h.box.cell 3 _ rfl
theorem CX.c4 {w : World} {b : Nat} {q : Ct} (h : CX w b q) : w.cell? ⟨b, 4, none⟩ = some (.int .i64 q.fixed) := h.box.cell 4 _ rfl
theorem CX.c5 {w : World} {b : Nat} {q : Ct} (h : CX w b q) : w.cell? ⟨b, 5, none⟩ = some (.int .i64 q.bound) := h.box.cell 5 _ rfl
def zeroC : Ct := ⟨none, 0, 0, [], none, 0, 0, [], 0, 0, 0, 0⟩
theorem zeroC_at (w : World) : CtAt w zeroC := ⟨rfl, by show 0 ≤ 900; omega, IntsAt.nil _ _, rfl, by show 0 ≤ 900; omega, IntsAt.nil _ _⟩

theorem und_cert : Try.prog.underlying 31 = some (.struct ((match Try.prog.underlying 31 with | some (.struct fs) => fs | _ => #[]))) := by kernel_rfl
theorem size_cert : (Try.prog.info? 31).map (·.size) = some 6 := by kernel_rfl
theorem load_cert {W : World} {b : Nat} {cs : Array Value} (h : Box W b cs 31) (hs : cs.size = 6) : (loadVar 31 ⟨b, 0, none⟩).run Try.prog W = .ok (.agg cs) W :=
  run_loadVar_row W b _ _ cs (0, 0) _ h und_cert rfl (by rw [hs]; exact size_cert)
theorem results_cert {fn : Func} {p u : Tmp} (h : fn.results = #[.cell p 31, .tmp u]) (tmps : Array Value) {W : World} {b : Nat} {cs : Array Value} (hb : Box W b cs 31) (hs : cs.size = 6) (hp : tmps.getD p undef = .pointer (some ⟨b, 0, none⟩)) {v : Value} (hv : tmps.getD u undef = v) :
    (results fn tmps).run Try.prog W = .ok (.tuple #[.agg cs, v]) W := by
  rw [results_cell_tmp h, hp, hv]
  simp [asAddr, Result.andThen, load_cert hb hs]
theorem cert_set {W : World} {b : Nat} {x0 x1 x2 x3 x4 x5 : Value} (h : Box W b #[x0, x1, x2, x3, x4, x5] 31) (v0 v1 v2 v3 v4 v5 : Value) :
    Box ((((((W.setCell ⟨b, 0, none⟩ v0).setCell ⟨b, 1, none⟩ v1).setCell ⟨b, 2, none⟩ v2).setCell ⟨b, 3, none⟩ v3).setCell ⟨b, 4, none⟩ v4).setCell ⟨b, 5, none⟩ v5) b #[v0, v1, v2, v3, v4, v5] 31 :=
  (((((h.set 0 v0 #[v0, x1, x2, x3, x4, x5] rfl).set 1 v1 #[v0, v1, x2, x3, x4, x5] rfl).set 2 v2 #[v0, v1, v2, x3, x4, x5] rfl).set 3 v3 #[v0, v1, v2, v3, x4, x5] rfl).set 4 v4 #[v0, v1, v2, v3, v4, x5] rfl).set 5 v5 #[v0, v1, v2, v3, v4, v5] rfl
theorem but_set6 (W : World) (b : Nat) (v0 v1 v2 v3 v4 v5 : Value) (k : Nat) (hk : k ≠ b) : ((((((W.setCell ⟨b, 0, none⟩ v0).setCell ⟨b, 1, none⟩ v1).setCell ⟨b, 2, none⟩ v2).setCell ⟨b, 3, none⟩ v3).setCell ⟨b, 4, none⟩ v4).setCell ⟨b, 5, none⟩ v5).heap[k]? = W.heap[k]? :=
  (Go.Deep.blk_setCell_other _ _ _ _ hk).trans ((Go.Deep.blk_setCell_other _ _ _ _ hk).trans ((Go.Deep.blk_setCell_other _ _ _ _ hk).trans ((Go.Deep.blk_setCell_other _ _ _ _ hk).trans ((Go.Deep.blk_setCell_other _ _ _ _ hk).trans (Go.Deep.blk_setCell_other _ _ _ _ hk)))))
theorem below_set6 {B : Nat} {w W : World} (h : Below B w W) (b : Nat) (hb : B ≤ b) (v0 v1 v2 v3 v4 v5 : Value) : Below B w ((((((W.setCell ⟨b, 0, none⟩ v0).setCell ⟨b, 1, none⟩ v1).setCell ⟨b, 2, none⟩ v2).setCell ⟨b, 3, none⟩ v3).setCell ⟨b, 4, none⟩ v4).setCell ⟨b, 5, none⟩ v5) :=
  (((((h.setCell (p := ⟨b, 0, none⟩) hb _).setCell (p := ⟨b, 1, none⟩) hb _).setCell (p := ⟨b, 2, none⟩) hb _).setCell (p := ⟨b, 3, none⟩) hb _).setCell (p := ⟨b, 4, none⟩) hb _).setCell (p := ⟨b, 5, none⟩) hb _

/-- a certificate's box while its lists grow -/
structure CS (V : World) (g : Nat) (iA : Option Addr) (im ic : Nat) (ids : List Int) (nA : Option Addr) (nm nc : Nat) (inn : List Int) (b r f t : Int) (W : World) : Prop where
  bel : Below V.heap.size V W
  hg : V.heap.size ≤ g
  box : Box W g #[.slice iA im ic, .slice nA nm nc, .int .i64 b, .int .i64 r, .int .i64 f, .int .i64 t] 31
  oi : OwnI W (g + 1) (.slice iA im ic) ids
  on : OwnN W (g + 1) (.slice nA nm nc) inn
section
variable {V W : World} {g : Nat} {iA : Option Addr} {im ic : Nat} {ids : List Int} {nA : Option Addr} {nm nc : Nat} {inn : List Int} {b r f t : Int}
theorem CS.start {x0 x1 x2 x3 x4 x5 : Value} (hV : Below V.heap.size V W) (hg : V.heap.size ≤ g) (hb : Box W g #[x0, x1, x2, x3, x4, x5] 31) :
    CS V g none 0 0 [] none 0 0 [] b r f 0 ((((((W.setCell ⟨g, 0, none⟩ (.slice none 0 0)).setCell ⟨g, 1, none⟩ (.slice none 0 0)).setCell ⟨g, 2, none⟩ (.int .i64 b)).setCell ⟨g, 3, none⟩ (.int .i64 r)).setCell ⟨g, 4, none⟩ (.int .i64 f)).setCell ⟨g, 5, none⟩ (.int .i64 0)) :=
  ⟨below_set6 hV g hg _ _ _ _ _ _, hg, cert_set hb _ _ _ _ _ _, ⟨by simp, .inl ⟨rfl, rfl⟩⟩, ⟨by simp, .inl ⟨rfl, rfl⟩⟩⟩
theorem CS.below {W' : World} (h : CS V g iA im ic ids nA nm nc inn b r f t W) (hb : Below W.heap.size W W') : CS V g iA im ic ids nA nm nc inn b r f t W' := ⟨h.bel.trans (hb.mono h.bel.size), h.hg, h.box.below hb, h.oi.below hb, h.on.below hb⟩
theorem own_apart {v v' : Value} {l m : List Int} {B : Nat} (h : OwnI W B v l) (h' : OwnN W B v' m) {k : Nat} (e : v'.ownBlock = some k) : v.ownBlock ≠ some k := by
  intro e2
  rcases h.2 with ⟨rfl, _⟩ | ⟨g1, cp, cur, rfl, _, hg1, _⟩
  · cases e2
  · rcases h'.2 with ⟨rfl, _⟩ | ⟨g2, cp2, cur2, rfl, _, hg2, _⟩
    · cases e
    · have e3 : g1 = k := Option.some.inj e2
      have e4 : g2 = k := Option.some.inj e
      rw [e3] at hg1
      rw [e4, hg1] at hg2
      have := Option.some.inj hg2
      injection this with _ h2 _
      exact absurd h2 (by decide)
theorem own_other {v : Value} {l : List Int} (h : OwnN W (g + 1) v l) {W' : World} (hb : ∀ k, v.ownBlock = some k → k < W.heap.size → W'.heap[k]? = W.heap[k]?) : OwnN W' (g + 1) v l := by
  obtain ⟨h1, h2⟩ := h
  refine ⟨h1, ?_⟩
  rcases h2 with h2 | ⟨k, cap, cur, hv, hg, hh, q⟩
  · exact .inl h2
  · exact .inr ⟨k, cap, cur, hv, hg, (hb k (by rw [hv]; rfl) (Array.getElem?_eq_some_iff.1 hh).1).trans hh, q⟩
theorem own_otheri {v : Value} {l : List Int} (h : OwnI W (g + 1) v l) {W' : World} (hb : ∀ k, v.ownBlock = some k → k < W.heap.size → W'.heap[k]? = W.heap[k]?) : OwnI W' (g + 1) v l := by
  obtain ⟨h1, h2⟩ := h
  refine ⟨h1, ?_⟩
  rcases h2 with h2 | ⟨k, cap, cur, hv, hg, hh, q⟩
  · exact .inl h2
  · exact .inr ⟨k, cap, cur, hv, hg, (hb k (by rw [hv]; rfl) (Array.getElem?_eq_some_iff.1 hh).1).trans hh, q⟩
theorem own_lt {v : Value} {l : List Int} (h : OwnI W (g + 1) v l) {k : Nat} (e : v.ownBlock = some k) : k ≠ g := by have := (h.lt k e).1; omega
theorem own_ltn {v : Value} {l : List Int} (h : OwnN W (g + 1) v l) {k : Nat} (e : v.ownBlock = some k) : k ≠ g := by have := (h.lt k e).1; omega

/-- one more Id -/
theorem CS.id (h : CS V g iA im ic ids nA nm nc inn b r f t W) (z : Int) (hs : ids.length ≤ 1000) (M : Nat) (hM : (ids ++ [z]).length = M) :
    ∃ v' w', (Builtin.append_ #[29, 29] 29 #[.slice iA im ic, .slice (some ⟨W.heap.size, 0, none⟩) 1 1]).run Try.prog (W.alloc (.cells #[.int .i64 z] 3)) = .ok v' w' ∧
      ∃ A' c', v' = .slice A' M c' ∧ w'.cell? ⟨g, 0, none⟩ = some (.slice iA im ic) ∧ w'.frozen? ⟨g, 0, none⟩ = false ∧ Hid (CS V g A' M c' (ids ++ [z]) nA nm nc inn b r f t (w'.setCell ⟨g, 0, none⟩ (.slice A' M c'))) := by
  have hbel : RowKit.Below W.heap.size W (W.alloc (.cells #[.int .i64 z] 3)) := below_alloc _ _
  have hg := h.box.lt
  have h2 := h.below hbel
  have hx : IntsAt (W.alloc (.cells #[.int .i64 z] 3)) (some ⟨W.heap.size, 0, none⟩) [z] := box_ints (Box.new W _ _) rfl
  obtain ⟨v', w', h1, ⟨A', c', e⟩, o⟩ := owni_app_at h2.oi (Nat.le_trans hg hbel.size) (some ⟨W.heap.size, 0, none⟩) 1 1 [z] rfl hx (by omega) M hM
  obtain ⟨o1, o2, o3, o4, _⟩ := o.out
  subst e
  have hbx : Box w' g #[.slice iA im ic, .slice nA nm nc, .int .i64 b, .int .i64 r, .int .i64 f, .int .i64 t] 31 := h2.box.old o2 (Nat.lt_succ_self g)
  refine ⟨_, w', h1, A', c', rfl, hbx.cell 0 _ rfl, hbx.fz 0, ⟨?_, h.hg, hbx.set 0 _ _ rfl, ?_, ?_⟩⟩
  · exact (h2.bel.trans (o2.mono (Nat.le_succ_of_le h.hg))).setCell (p := ⟨g, 0, none⟩) h.hg _
  · exact own_otheri o1 fun k e _ => Go.Deep.blk_setCell_other _ _ _ _ (own_lt o1 e)
  · refine own_other h2.on fun k e hk => ?_
    rw [Go.Deep.blk_setCell_other _ _ _ _ (own_ltn h2.on e)]
    exact o3 k hk (own_apart h2.oi h2.on e)
/-- one more distance -/
theorem CS.dist (h : CS V g iA im ic ids nA nm nc inn b r f t W) (z : Int) (hs : inn.length ≤ 1000) (M : Nat) (hM : (inn ++ [z]).length = M) :
    ∃ v' w', (Builtin.append_ #[22, 22] 22 #[.slice nA nm nc, .slice (some ⟨W.heap.size, 0, none⟩) 1 1]).run Try.prog (W.alloc (.cells #[.int .i64 z] 2)) = .ok v' w' ∧
      ∃ A' c', v' = .slice A' M c' ∧ w'.cell? ⟨g, 1, none⟩ = some (.slice nA nm nc) ∧ w'.frozen? ⟨g, 1, none⟩ = false ∧ Hid (CS V g iA im ic ids A' M c' (inn ++ [z]) b r f t (w'.setCell ⟨g, 1, none⟩ (.slice A' M c'))) := by
  have hbel : RowKit.Below W.heap.size W (W.alloc (.cells #[.int .i64 z] 2)) := below_alloc _ _
  have hg := h.box.lt
  have h2 := h.below hbel
  have hx : IntsAt (W.alloc (.cells #[.int .i64 z] 2)) (some ⟨W.heap.size, 0, none⟩) [z] := box_ints (Box.new W _ _) rfl
  obtain ⟨v', w', h1, ⟨A', c', e⟩, o⟩ := ownn_app_at h2.on (Nat.le_trans hg hbel.size) (some ⟨W.heap.size, 0, none⟩) 1 1 [z] rfl hx (by omega) M hM
  obtain ⟨o1, o2, o3, o4, _⟩ := o.out
  subst e
  have hbx : Box w' g #[.slice iA im ic, .slice nA nm nc, .int .i64 b, .int .i64 r, .int .i64 f, .int .i64 t] 31 := h2.box.old o2 (Nat.lt_succ_self g)
  refine ⟨_, w', h1, A', c', rfl, hbx.cell 1 _ rfl, hbx.fz 1, ⟨?_, h.hg, hbx.set 1 _ _ rfl, ?_, ?_⟩⟩
  · exact (h2.bel.trans (o2.mono (Nat.le_succ_of_le h.hg))).setCell (p := ⟨g, 1, none⟩) h.hg _
  · refine own_otheri h2.oi fun k e hk => ?_
    rw [Go.Deep.blk_setCell_other _ _ _ _ (own_lt h2.oi e)]
    exact o3 k hk fun e2 => own_apart h2.oi h2.on e2 e
  · exact own_other o1 fun k e _ => Go.Deep.blk_setCell_other _ _ _ _ (own_ltn o1 e)
end
end Go.Proofs.Ytbacakblboodeaa
