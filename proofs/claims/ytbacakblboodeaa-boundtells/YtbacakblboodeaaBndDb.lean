/- The document's certificate while it is made. -/
import Derived.Test.YtbacakblboodeaaBndDa
namespace Go.Proofs.Ytbacakblboodeaa
open Go.RowKit
set_option linter.unusedVariables false
set_option maxRecDepth 100000

theorem und_rcert : Try.prog.underlying 37 = some (.struct ((match Try.prog.underlying 37 with | some (.struct fs) => fs | _ => #[]))) := by kernel_rfl
theorem size_rcert : (Try.prog.info? 37).map (·.size) = some 6 := by kernel_rfl
theorem load_rcert {W : World} {b : Nat} {cs : Array Value} (h : Box W b cs 37) (hs : cs.size = 6) : (loadVar 37 ⟨b, 0, none⟩).run Try.prog W = .ok (.agg cs) W :=
  run_loadVar_row W b _ _ cs (0, 0) _ h und_rcert rfl (by rw [hs]; exact size_rcert)
theorem results_rcert {fn : Func} {p u : Tmp} (h : fn.results = #[.cell p 37, .tmp u]) (tmps : Array Value) {W : World} {b : Nat} {cs : Array Value} (hb : Box W b cs 37) (hs : cs.size = 6) (hp : tmps.getD p undef = .pointer (some ⟨b, 0, none⟩)) {v : Value} (hv : tmps.getD u undef = v) :
    (results fn tmps).run Try.prog W = .ok (.tuple #[.agg cs, v]) W := by
  rw [results_cell_tmp h, hp, hv]
  simp [asAddr, Result.andThen, load_rcert hb hs]
theorem rcert_set {W : World} {b : Nat} {x0 x1 x2 x3 x4 x5 : Value} (h : Box W b #[x0, x1, x2, x3, x4, x5] 37) (v0 v1 v2 v3 v4 v5 : Value) :
    Box ((((((W.setCell ⟨b, 0, none⟩ v0).setCell ⟨b, 1, none⟩ v1).setCell ⟨b, 2, none⟩ v2).setCell ⟨b, 3, none⟩ v3).setCell ⟨b, 4, none⟩ v4).setCell ⟨b, 5, none⟩ v5) b #[v0, v1, v2, v3, v4, v5] 37 :=
  (((((h.set 0 v0 #[v0, x1, x2, x3, x4, x5] rfl).set 1 v1 #[v0, v1, x2, x3, x4, x5] rfl).set 2 v2 #[v0, v1, v2, x3, x4, x5] rfl).set 3 v3 #[v0, v1, v2, v3, x4, x5] rfl).set 4 v4 #[v0, v1, v2, v3, v4, x5] rfl).set 5 v5 #[v0, v1, v2, v3, v4, v5] rfl

structure RCS (V : World) (g : Nat) (iA : Option Addr) (im ic : Nat) (nA : Option Addr) (nm nc : Nat) (inn : List Int) (b r f t : Int) (W : World) : Prop where
  bel : Below V.heap.size V W
  hg : V.heap.size ≤ g
  box : Box W g #[.slice iA im ic, .slice nA nm nc, .int .i64 b, .int .i64 r, .int .i64 f, .int .i64 t] 37
  on : OwnN W (g + 1) (.slice nA nm nc) inn
section
variable {V W : World} {g : Nat} {iA : Option Addr} {im ic : Nat} {nA : Option Addr} {nm nc : Nat} {inn : List Int} {b r f t : Int}
theorem RCS.new (V : World) (iA : Option Addr) (im ic : Nat) : RCS V V.heap.size iA im ic none 0 0 [] 0 0 0 0 (V.alloc (.cells #[.slice iA im ic, .slice none 0 0, .int .i64 0, .int .i64 0, .int .i64 0, .int .i64 0] 37)) :=
  ⟨below_alloc _ _, Nat.le_refl _, Box.new _ _ _, ⟨by simp, .inl ⟨rfl, rfl⟩⟩⟩
theorem RCS.below {W' : World} (h : RCS V g iA im ic nA nm nc inn b r f t W) (hb : Below W.heap.size W W') : RCS V g iA im ic nA nm nc inn b r f t W' := ⟨h.bel.trans (hb.mono h.bel.size), h.hg, h.box.below hb, h.on.below hb⟩
theorem RCS.drew (h : RCS V g iA im ic nA nm nc inn b r f t W) : RCS V g iA im ic nA nm nc inn b r f t W.drew := h.below (Below.refl _ _).drew
theorem RCS.c0 (h : RCS V g iA im ic nA nm nc inn b r f t W) : W.cell? ⟨g, 0, none⟩ = some (.slice iA im ic) := h.box.cell 0 _ rfl
theorem RCS.c1 (h : RCS V g iA im ic nA nm nc inn b r f t W) : W.cell? ⟨g, 1, none⟩ = some (.slice nA nm nc) := h.box.cell 1 _ rfl
theorem RCS.c2 (h : RCS V g iA im ic nA nm nc inn b r f t W) : W.cell? ⟨g, 2, none⟩ = some (.int .i64 b) := h.box.cell 2 _ rfl
theorem RCS.c3 (h : RCS V g iA im ic nA nm nc inn b r f t W) : W.cell? ⟨g, 3, none⟩ = some (.int .i64 r) := h.box.cell 3 _ rfl
theorem RCS.c4 (h : RCS V g iA im ic nA nm nc inn b r f t W) : W.cell? ⟨g, 4, none⟩ = some (.int .i64 f) := h.box.cell 4 _ rfl
theorem RCS.c5 (h : RCS V g iA im ic nA nm nc inn b r f t W) : W.cell? ⟨g, 5, none⟩ = some (.int .i64 t) := h.box.cell 5 _ rfl
theorem RCS.set2 (h : RCS V g iA im ic nA nm nc inn b r f t W) (v : Int) : RCS V g iA im ic nA nm nc inn v r f t (W.setCell ⟨g, 2, none⟩ (.int .i64 v)) :=
  ⟨h.bel.setCell (p := ⟨g, 2, none⟩) h.hg _, h.hg, h.box.set 2 _ _ rfl, own_other h.on fun k e _ => Go.Deep.blk_setCell_other _ _ _ _ (own_ltn h.on e)⟩
theorem RCS.set3 (h : RCS V g iA im ic nA nm nc inn b r f t W) (v : Int) : RCS V g iA im ic nA nm nc inn b v f t (W.setCell ⟨g, 3, none⟩ (.int .i64 v)) :=
  ⟨h.bel.setCell (p := ⟨g, 3, none⟩) h.hg _, h.hg, h.box.set 3 _ _ rfl, own_other h.on fun k e _ => Go.Deep.blk_setCell_other _ _ _ _ (own_ltn h.on e)⟩
theorem RCS.set4 (h : RCS V g iA im ic nA nm nc inn b r f t W) (v : Int) : RCS V g iA im ic nA nm nc inn b r v t (W.setCell ⟨g, 4, none⟩ (.int .i64 v)) :=
  ⟨h.bel.setCell (p := ⟨g, 4, none⟩) h.hg _, h.hg, h.box.set 4 _ _ rfl, own_other h.on fun k e _ => Go.Deep.blk_setCell_other _ _ _ _ (own_ltn h.on e)⟩
theorem RCS.set5 (h : RCS V g iA im ic nA nm nc inn b r f t W) (v : Int) : RCS V g iA im ic nA nm nc inn b r f v (W.setCell ⟨g, 5, none⟩ (.int .i64 v)) :=
  ⟨h.bel.setCell (p := ⟨g, 5, none⟩) h.hg _, h.hg, h.box.set 5 _ _ rfl, own_other h.on fun k e _ => Go.Deep.blk_setCell_other _ _ _ _ (own_ltn h.on e)⟩
/-- one more distance -/
theorem RCS.dist (h : RCS V g iA im ic nA nm nc inn b r f t W) (z : Int) (hs : inn.length ≤ 1000) (M : Nat) (hM : (inn ++ [z]).length = M) :
    ∃ v' w', (Builtin.append_ #[22, 22] 22 #[.slice nA nm nc, .slice (some ⟨W.heap.size, 0, none⟩) 1 1]).run Try.prog (W.alloc (.cells #[.int .i64 z] 2)) = .ok v' w' ∧
      ∃ A' c', v' = .slice A' M c' ∧ w'.cell? ⟨g, 1, none⟩ = some (.slice nA nm nc) ∧ w'.frozen? ⟨g, 1, none⟩ = false ∧ Hid (RCS V g iA im ic A' M c' (inn ++ [z]) b r f t (w'.setCell ⟨g, 1, none⟩ (.slice A' M c'))) := by
  have hbel : RowKit.Below W.heap.size W (W.alloc (.cells #[.int .i64 z] 2)) := below_alloc _ _
  have hg := h.box.lt
  have h2 := h.below hbel
  have hx : IntsAt (W.alloc (.cells #[.int .i64 z] 2)) (some ⟨W.heap.size, 0, none⟩) [z] := box_ints (Box.new W _ _) rfl
  obtain ⟨v', w', h1, ⟨A', c', e⟩, o⟩ := ownn_app_at h2.on (Nat.le_trans hg hbel.size) (some ⟨W.heap.size, 0, none⟩) 1 1 [z] rfl hx (by omega) M hM
  obtain ⟨o1, o2, o3, o4, _⟩ := o.out
  subst e
  have hbx : Box w' g #[.slice iA im ic, .slice nA nm nc, .int .i64 b, .int .i64 r, .int .i64 f, .int .i64 t] 37 := h2.box.old o2 (Nat.lt_succ_self g)
  refine ⟨_, w', h1, A', c', rfl, hbx.cell 1 _ rfl, hbx.fz 1, ⟨?_, h.hg, hbx.set 1 _ _ rfl, ?_⟩⟩
  · exact (h2.bel.trans (o2.mono (Nat.le_succ_of_le h.hg))).setCell (p := ⟨g, 1, none⟩) h.hg _
  · exact own_other o1 fun k e _ => Go.Deep.blk_setCell_other _ _ _ _ (own_ltn o1 e)
end
theorem lst_next {l : List Int} {k : Nat} {x : Int} (h : l[k]? = some x) : Bo.lst (l.take (k + 1)) = if k = 0 then x else min (Bo.lst (l.take k)) x := by
  by_cases hk : k = 0
  · subst hk
    rw [if_pos rfl, List.take_add_one, h]
    rfl
  · rw [if_neg hk]
    exact Bo.lst_take h (Nat.pos_of_ne_zero hk)
end Go.Proofs.Ytbacakblboodeaa
