/- maps, sums, can and rows as the law SavingsRows uses them (SavMap, SavCan, SavSum, SavRw in one: the limit of files in a claim) -/
import Derived.Test.YtjidelfpmlnhkaaGreatSavLaw
import Derived.Maps.OwnSet
import Derived.Test.YtjidelfpmlnhkaaGreatRouteMath4
import Derived.Deep.RegionLaw
/-! A map that a law makes of whole numbers: which were met. -/
namespace Go.Proofs.YtjidelfpmlnhkaaGreat
open Go.RowKit Go.Maps
set_option linter.unusedVariables false
set_option maxRecDepth 100000

theorem lawInt : Keyed Tryz.prog 3 := int_keyed Tryz.underlying3
theorem zeroInt (w : World) : (zeroValue 3).run Tryz.prog w = .ok (.int .i64 0) w := by kernel_rfl
def InR (x : Int) : Prop := -9223372036854775808 ≤ x ∧ x ≤ 9223372036854775807
theorem InR.wf {x : Int} (h : InR x) : (Lit.int .i64 x).wf = true := by
  have h1 := h.1
  have h2 := h.2
  simp [Lit.wf, IntKind.min, IntKind.max, IntKind.bits, IntKind.signed]
  omega
theorem InR.key {x : Int} (h : InR x) : keyOf Tryz.prog 3 (.int .i64 x) = some (.int .i64 x) := keyOf_int_mk Tryz.underlying3 h.wf

/-- a map whose keys are these, each with one and the same value -/
def Met (E : TypeId) (one zero : Lit) (w : World) (b : Nat) (L : List Int) : Prop :=
  ∃ (n : Nat) (D : DataW Unit), w.ownsMap Tryz.prog 3 (plainElem Tryz.prog E) b n D ∧ n ≤ L.length ∧ Maps.size D = L.length ∧ ∀ x : Int, D.atKey (.int .i64 x) (.lit zero) = .lit (if x ∈ L then one else zero) ∧ Maps.has D (.int .i64 x) = decide (x ∈ L)
theorem Met.at_ {E : TypeId} {one zero : Lit} {w w' : World} {b : Nat} {L : List Int} (h : Met E one zero w b L) (hb : w'.heap[b]? = w.heap[b]?) : Met E one zero w' b L := by
  obtain ⟨n, D, ⟨es, clock, h1, h2⟩, h3⟩ := h
  exact ⟨n, D, ⟨es, clock, hb.trans h1, h2⟩, h3⟩
theorem Met.lt {E : TypeId} {one zero : Lit} {w : World} {b : Nat} {L : List Int} (h : Met E one zero w b L) : b < w.heap.size := by
  obtain ⟨n, D, h1, _⟩ := h
  exact h1.lt
theorem Met.below {E : TypeId} {one zero : Lit} {w w' : World} {b : Nat} {L : List Int} (h : Met E one zero w b L) (hb : Below w.heap.size w w') : Met E one zero w' b L := h.at_ (hb.block b h.lt)
theorem Met.made (E : TypeId) (one zero : Lit) (w : World) : Met E one zero (w.alloc (.map #[] 0)) w.heap.size [] :=
  ⟨0, .map [], World.ownsMap_made _ _ _ _, Nat.le_refl _, rfl, fun x => ⟨rfl, rfl⟩⟩
/-- one key more -/
theorem Met.put {E : TypeId} {one zero : Lit} {T : TypeId} {w : World} {b : Nat} {L : List Int} (h : Met E one zero w b L) (ht : Tryz.prog.underlying T = some (.map 3 E)) {x : Int} (hx : x ∉ L) (hr : InR x) (hL : L.length ≤ 100000) {val : Value} (hv : plainElem (H := Unit) Tryz.prog E val = some (.lit one, [])) :
    ∃ w', (Instr.mapUpdate T (.map (some b)) (.int .i64 x) val).run Tryz.prog w = .ok () w' ∧ Hid (Met E one zero w' b (L ++ [x]) ∧ w.grownBy w' (some b)) := by
  obtain ⟨n, D, h1, h2, h3, h4⟩ := h
  obtain ⟨w', e, h5, h6⟩ := h1.update lawInt ht (by unfold maxLen; omega) hr.key hv
  refine ⟨w', e, ⟨n + 1, _, h5, by rw [List.length_append]; simp; omega, ?_, fun y => ?_⟩, h6⟩
  · rw [Maps.size_put (h1.tidy lawInt), (h4 x).2, if_neg (by simpa using hx), h3, List.length_append]
    rfl
  · by_cases e : y = x
    · subst e
      rw [Maps.atKey_put_same h1.isMap (by trivial), Maps.has_put_same h1.isMap (by trivial)]
      simp
    · have hne : Lit.int .i64 y ≠ Lit.int .i64 x := fun h => e (by injection h)
      rw [Maps.atKey_put_other hne, Maps.has_put_other hne, (h4 y).1, (h4 y).2]
      simp [e]
abbrev Times := Met 3 (.int .i64 1) (.int .i64 0)
theorem Times.look {w : World} {b : Nat} {L : List Int} (h : Met 3 (.int .i64 1) (.int .i64 0) w b L) {x : Int} (hr : InR x) (z : Int) (hz : (if x ∈ L then (1 : Int) else 0) = z) : (Instr.lookup 60 (.map (some b)) (.int .i64 x) false).run Tryz.prog w = .ok (.int .i64 z) w := by
  obtain ⟨n, D, h1, h2, h3, h4⟩ := h
  obtain ⟨c, e, hc, _⟩ := h1.lookup_int lawInt Tryz.underlying60 Tryz.underlying3 (zeroInt _) hr.key
  rw [e]
  rw [(h4 x).1] at hc
  subst hz
  by_cases hx : x ∈ L
  · rw [if_pos hx] at hc ⊢
    injection hc with hc
    injection hc with _ hc
    rw [hc]
  · rw [if_neg hx] at hc ⊢
    injection hc with hc
    injection hc with _ hc
    rw [hc]
theorem Times.len {w : World} {b : Nat} {L : List Int} (h : Met 3 (.int .i64 1) (.int .i64 0) w b L) (n : Nat) (hn : L.length = n) (ty : TypeId) : (Builtin.len_ #[60] ty #[.map (some b)]).run Tryz.prog w = .ok (.int .i64 (n : Int)) w := by
  obtain ⟨k, D, h1, h2, h3, h4⟩ := h
  rw [h1.len Tryz.underlying60 ty, h3, hn]
theorem Times.put {w : World} {b : Nat} {L : List Int} (h : Met 3 (.int .i64 1) (.int .i64 0) w b L) {x : Int} (hx : x ∉ L) (hr : InR x) (hL : L.length ≤ 100000) :
    ∃ w', (Instr.mapUpdate 60 (.map (some b)) (.int .i64 x) (.int .i64 1)).run Tryz.prog w = .ok () w' ∧ Hid (Met 3 (.int .i64 1) (.int .i64 0) w' b (L ++ [x]) ∧ w.grownBy w' (some b)) :=
  Met.put h Tryz.underlying60 hx hr hL (plainElem_int Tryz.underlying3 (by decide))
theorem wpList_mapUpdate_any {P : Program} {w : World} {ops : Array Oper} {rest : List Oper} {o : Oper} {a : Act} {Q : Exit → Act → World → Prop}
    (hg : o.guard = none) (m x v : Operand) (t : TypeId) (hop : o.op = Op.mapUpdate t m x v) (mv key val : Value) (hm : a.eval m = mv) (hx : a.eval x = key) (hv : a.eval v = val) (R : World → Prop)
    (hr : ∃ w', (Instr.mapUpdate t mv key val).run P w = .ok () w' ∧ R w') (hK : ∀ w', R w' → wpList P ops Q rest (a.put o.dst undef) w') : wpList P ops Q (o :: rest) a w := by
  refine wpList_plain hg fun K' hK' => ?_
  obtain ⟨w', hrun, r1⟩ := hr
  unfold Oper.wp
  simp [execOp, hop, hm, hx, hv, hrun, Result.andThen]
  exact hK' _ _ (hK w' r1)
/-- a map that was written is no other block -/
theorem grown_below {B b : Nat} {w w' : World} (h : w.grownBy w' (some b)) (hb : B ≤ b) (hw : b < w.heap.size) : Below B w w' := (Below.refl B w).grown h (by omega) fun k e => by injection e with e; omega
theorem grown_other {b : Nat} {w w' : World} (h : w.grownBy w' (some b)) (k : Nat) (hk : k < w.heap.size) (hb : k ≠ b) : w'.heap[k]? = w.heap[k]? := h.block k hk (by simpa using hb)
end Go.Proofs.YtjidelfpmlnhkaaGreat

/-! The law's own closure: whether some truck can run a row; an append behind a guard. -/
namespace Go.Proofs.YtjidelfpmlnhkaaGreat
open Go.RowKit
set_option linter.unusedVariables false
set_option maxRecDepth 100000

theorem wpList_append_g {P : Program} {w : World} {ops : Array Oper} {rest : List Oper} {o : Oper} {a : Act} {Q : Exit → Act → World → Prop} (hgd : Region.wanted o (yielded ops a.tmps) = true) (s x : Operand) (t tn : TypeId)
    (ho : o.op = .call { callee := .builtin .append, args := #[s, x], argTypes := #[t, tn] }) (vs vx : Value) (hs : a.eval s = vs) (hx : a.eval x = vx)
    (R : Value → World → Prop) (hr : ∃ v' w', (Builtin.append_ #[t, tn] o.type #[vs, vx]).run P w = .ok v' w' ∧ R v' w')
    (h : ∀ v' w', R v' w' → wpList P ops Q rest (a.put o.dst v') w') : wpList P ops Q (o :: rest) a w := by
  refine wpList_step fun K hK => ?_
  rw [if_pos hgd]
  obtain ⟨v', w', hr, h2⟩ := hr
  unfold Oper.wp
  simp [execOp, ho, resolve, invoke, builtin, hs, hx, hr, Result.andThen]
  exact hK _ _ (h v' w' h2)

set_option maxHeartbeats 4000000 in
theorem can_b (x : Wd) (b1 : Nat) (A : Option Addr) (n c : Nat) (l : List Int) (w : World) (r : Bool) (hr : Sv.canB x.N x.D x.T x.os x.ts l = r) (hx : WX w b1 x) (hn : l.length = n) (hn2 : n ≤ 1000) (hl : IntsAt w A l) :
    Calls Tryz.prog 20 #[.slice A n c, .pointer (some ⟨b1, 0, none⟩)] w fun e w' => e = .returned (.bool r) ∧ Hid (Below w.heap.size w w') := by
  have HX := Lib.hid hx
  have HL := Lib.hid hl
  have HN := Lib.hid hn
  have HR := Lib.hid hr
  have hk2 := hx.at_.k2
  have HKL := Lib.hid hx.at_.kl
  have HRUN : Hid (∀ (u : Int) (U : World), Below w.heap.size w U → Calls Tryz.prog 21 #[.agg #[.int .i64 x.N, .slice x.dA x.dm x.dc, .slice x.tA x.tm x.tc, .slice x.A x.m x.c, .slice x.B x.k x.d], .agg #[.int .i64 u, .slice A n c]] U (TripPost U (Rt.runS x.N x.D x.T x.os x.ts u l))) := fun u U h => run_b x ⟨u, A, n, c, l⟩ U _ rfl (hx.at_.below h) ⟨hn, hn2, hl.below h⟩
  clear hx hl hn hr
  go_enter Tryz.func20, Tryz.ntmps20
  have x4 := HX.out.c4
  go_wp2_with fail
  clear x4
  go_loopg [3, 11] x.k (fun gk s3 s11 Wx => ∃ (q : Nat) (W : World), W = Wx ∧ q + gk = x.k ∧ s3 = .bool false ∧ s11 = .int .i64 q ∧ Hid (Below w.heap.size w W) ∧ Hid (∀ (p : Nat) (t : Ld.T), p < q → x.ts[p]? = some t → ¬ (Rt.runS x.N x.D x.T x.os x.ts t.id l).e = 0))
  case atStart => exact ⟨0, _, rfl, by omega, rfl, rfl, Below.refl _ _, fun p t hp => by omega⟩
  case round =>
    obtain ⟨q, W, rfl, hqg, rfl, rfl, HB, HQ⟩ := hrel
    by_cases hqlt : q < x.k
    · obtain ⟨gt, rfl⟩ : ∃ j, gk = j + 1 := ⟨gk - 1, by omega⟩
      obtain ⟨⟨t0, t1, t2, t3, t4, t5, t6⟩, ht⟩ := mlist_at x.ts q (by rw [HKL.out]; exact hqlt)
      obtain ⟨bd, hBd, c0, c1, c2, c3, c4, c5, c6⟩ := (HX.out.below HB.out).at_.ts.at_ ht
      have HTT := Lib.hid ht
      have HBD := Lib.hid hBd
      have q2 : (q : Int) < (x.k : Int) := by omega
      have HB5 := Lib.hid (below_more HB.out (.cells #[.int .i64 t0, .int .i64 t1, .int .i64 t2, .int .i64 t3, .int .i64 t4, .int .i64 t5, .int .i64 t6] 51))
      have u0 : (W.alloc (.cells #[.int .i64 t0, .int .i64 t1, .int .i64 t2, .int .i64 t3, .int .i64 t4, .int .i64 t5, .int .i64 t6] 51)).cell? ⟨W.heap.size, 0, none⟩ = some (.int .i64 t0) := (Box.new W _ _).cell 0 _ rfl
      clear ht hBd
      simp only at c0 c1 c2 c3 c4 c5 c6
      have HC := Lib.hid (HRUN.out t0 (W.alloc (.cells #[.int .i64 t0, .int .i64 t1, .int .i64 t2, .int .i64 t3, .int .i64 t4, .int .i64 t5, .int .i64 t6] 51)) HB5.out)
      have z0 := (HX.out.below HB5.out).c0
      have z1 := (HX.out.below HB5.out).c1
      have z2 := (HX.out.below HB5.out).c2
      have z3 := (HX.out.below HB5.out).c3
      have z4 := (HX.out.below HB5.out).c4
      generalize x.B = xB at *
      obtain rfl := HBD.out
      go_wp2_with fail
      clear z0 z1 z2 z3 z4 c0 c1 c2 c3 c4 c5 c6 u0
      with_reducible refine HC.out.mono ?_
      rintro e W5 ⟨tA, tc, rfl, h5⟩
      obtain ⟨res, hres⟩ : ∃ res, Rt.runS x.N x.D x.T x.os x.ts t0 l = res := ⟨_, rfl⟩
      have HRES := Lib.hid hres
      rw [hres] at h5 ⊢
      have HB6 := Lib.hid (below_more (below_next HB5.out h5.out.1) (.cells #[.slice tA res.vs.length tc, .int .i64 res.back, .int .i64 res.dist, .int .i64 res.cost] 54))
      clear h5 hres HC HB5
      obtain ⟨vs, back, dist, cost, er⟩ := res
      simp only at *
      by_cases he : er = 0
      · subst he
        have e4 : ((0 : Int) == (0 : Int)) = true := by decide
        have HTRUE : Hid (r = true) := by rw [← HR.out]; exact Sv.can_of HTT.out (by rw [HRES.out])
        go_wp2
        go_ret
        exact ⟨by rw [HTRUE.out]; rfl, HB6.out⟩
      · have e4 : (er == (0 : Int)) = false := by rw [beq_eq_false_iff_ne]; exact he
        have HQ2 : Hid (∀ (p : Nat) (t : Ld.T), p < q + 1 → x.ts[p]? = some t → ¬ (Rt.runS x.N x.D x.T x.os x.ts t.id l).e = 0) := fun p t hp hpt => by
          by_cases e : p = q
          · subst e
            rw [HTT.out] at hpt
            obtain rfl := Option.some.inj hpt
            rw [show (Rt.runS x.N x.D x.T x.os x.ts t0 l) = _ from HRES.out]
            exact he
          · exact HQ.out p t (by omega) hpt
        go_wp2
        go_roundg gt
        case measure => omega
        case rel => exact ⟨q + 1, _, rfl, by omega, rfl, by first | rfl | go_num, HB6.out, HQ2.out⟩
    · have HFALSE : Hid (r = false) := by
        rw [← HR.out]
        exact Sv.can_no fun p t hp => HQ.out p t (by have := (List.getElem?_eq_some_iff.1 hp).1; rw [HKL.out] at this; omega) hp
      go_wp2
      go_ret
      exact ⟨by rw [HFALSE.out]; rfl, HB.out⟩
end Go.Proofs.YtjidelfpmlnhkaaGreat

/-! What is saved by joining two rows, by their trips; a row that is made of two by appends. -/
namespace Go.Proofs.YtjidelfpmlnhkaaGreat
open Go.RowKit
set_option linter.unusedVariables false
set_option maxRecDepth 100000

theorem lst_node (os : List Ld.O) (a : List Int) (h : a ≠ []) : Ar.lastOf 0 ((Rt.ordersOf os a).map Ld.O.node) = Sv.nodeOf os (Sv.lst a) := by
  induction a using Ar.snoc_ind with
  | h0 => exact absurd rfl h
  | h1 l x _ =>
    unfold Rt.ordersOf
    rw [List.map_append, List.map_append, List.map_singleton, List.map_singleton, Ar.lastOf_snoc]
    have : Sv.lst (l ++ [x]) = x := Sv.lst_at (by simp)
    rw [this]
    rfl
theorem sums_of {N : Int} {D T : List Int} {os : List Ld.O} {ts : List Ld.T} {tr : Int} {a b : List Int} (ha : (Rt.runS N D T os ts tr a).e = 0) (hb : (Rt.runS N D T os ts tr b).e = 0) (hab : (Rt.runS N D T os ts tr (a ++ b)).e = 0) :
    Sv.savS N D T os ts a b = ((Rt.runS N D T os ts tr a).dist + (Rt.runS N D T os ts tr b).dist - (Rt.runS N D T os ts tr (a ++ b)).dist, 0) ∧ 0 ≤ (Rt.runS N D T os ts tr a).dist ∧ (Rt.runS N D T os ts tr a).dist ≤ 20000000 ∧ 0 ≤ (Rt.runS N D T os ts tr b).dist ∧ (Rt.runS N D T os ts tr b).dist ≤ 20000000 ∧ 0 ≤ (Rt.runS N D T os ts tr (a ++ b)).dist ∧ (Rt.runS N D T os ts tr (a ++ b)).dist ≤ 20000000 := by
  obtain ⟨ra, ea⟩ := Rt.runs_of ha
  obtain ⟨rb, eb⟩ := Rt.runs_of hb
  obtain ⟨rc, ec⟩ := Rt.runs_of hab
  have hok := Rt.ok_of ra.w
  have hane : a ≠ [] := fun e => by have := ra.l1; rw [e] at this; simp at this
  have hbne : b ≠ [] := fun e => by have := rb.l1; rw [e] at this; simp at this
  have hda : (Rt.runS N D T os ts tr a).dist = Ar.sumX N D (Ar.tourX ((Rt.ordersOf os a).map Ld.O.node)) := by rw [ea]; exact Rt.home_tour _ _
  have hdb : (Rt.runS N D T os ts tr b).dist = Ar.sumX N D (Ar.tourX ((Rt.ordersOf os b).map Ld.O.node)) := by rw [eb]; exact Rt.home_tour _ _
  have hdc : (Rt.runS N D T os ts tr (a ++ b)).dist = Ar.sumX N D (Ar.tourX ((Rt.ordersOf os (a ++ b)).map Ld.O.node)) := by rw [ec]; exact Rt.home_tour _ _
  have hbd : ∀ (l : List Int), Rt.Runs N D T os ts tr l → 0 ≤ Ar.sumX N D (Ar.tourX ((Rt.ordersOf os l).map Ld.O.node)) ∧ Ar.sumX N D (Ar.tourX ((Rt.ordersOf os l).map Ld.O.node)) ≤ 20000000 := fun l hr => by
    have h1 : Ar.insB N ((Rt.ordersOf os l).map Ld.O.node) = true := (Ar.ins_iff _ _).2 fun x hx => by
      obtain ⟨o, ho, rfl⟩ := List.mem_map.1 hx
      exact Rt.OOk.has (hr.oo o ho)
    have h2 := (Ar.sumX_bd hok.ar _ (Ar.insX_tour hok.ar.has0 h1)).1
    have h3 : (Ar.tourX ((Rt.ordersOf os l).map Ld.O.node)).length ≤ 13 := by
      rw [Ar.tourX_len, List.length_map, Rt.ordersOf_len]
      have := hr.l2
      omega
    omega
  have b1 := hbd a ra
  have b2 := hbd b rb
  have b3 := hbd (a ++ b) rc
  rw [hda, hdb, hdc]
  refine ⟨?_, b1.1, b1.2, b2.1, b2.2, b3.1, b3.2⟩
  have hla : ¬ Ld.findI (os.map Ld.O.id) (Sv.lst a) = -1 := by
    obtain ⟨j, hj⟩ := List.getElem?_of_mem (Sv.lst_mem hane)
    exact Rt.allIn_at ra.al hj
  have hhb : ¬ Ld.findI (os.map Ld.O.id) (Sv.hd b) = -1 := by
    obtain ⟨j, hj⟩ := List.getElem?_of_mem (Sv.hd_mem hbne)
    exact Rt.allIn_at rb.al hj
  rw [Sv.sav_ok ra.w (by have := ra.l1; have := rb.l1; omega) hla hhb]
  congr 1
  unfold Sv.savV
  rw [← lst_node os a hane]
  have happ : (Rt.ordersOf os (a ++ b)).map Ld.O.node = (Rt.ordersOf os a).map Ld.O.node ++ (Rt.ordersOf os b).map Ld.O.node := by unfold Rt.ordersOf; simp
  rw [happ, Ar.tourX_eq, Ar.tourX_eq, Ar.tourX_eq, Ar.goes_app, Ar.lastOf_app]
  cases b with
  | nil => exact absurd rfl hbne
  | cons z b =>
    have hz : Sv.hd (z :: b) = z := rfl
    rw [hz]
    have hm : (Rt.ordersOf os (z :: b)).map Ld.O.node = Sv.nodeOf os z :: (Rt.ordersOf os b).map Ld.O.node := rfl
    rw [hm]
    generalize (Rt.ordersOf os a).map Ld.O.node = L
    generalize (Rt.ordersOf os b).map Ld.O.node = M
    generalize Sv.nodeOf os z = y
    show _ = _
    simp only [Ar.sumX_app, Ar.goes, Ar.lastOf]
    simp only [Ar.sumX, List.map_cons, List.map_nil, List.sum_cons, List.sum_nil]
    omega

/-- a row of numbers of one's own, and a box beside it -/
structure QI (V : World) (xb : Option Nat) (l : List Int) (v : Value) (w : World) : Prop where
  own : OwnI w V.heap.size v l
  bel : Below V.heap.size V w
  box : ∀ q, xb = some q → V.heap.size ≤ q ∧ Box w q #[.slice none 0 0, .int .i64 0, .int .i64 0, .int .i64 0] 54
theorem QI.a (V : World) : QI V none [] (.slice (some ⟨V.heap.size, 0, none⟩) 0 0) (V.alloc (.cells #[] 3)).drew := ⟨own_none V _ (Nat.le_refl _), (below_alloc _ _).drew, fun q e => (by cases e)⟩
theorem QI.b (V : World) : QI V (some (V.heap.size + 1)) [] (.slice (some ⟨V.heap.size, 0, none⟩) 0 0) ((V.alloc (.cells #[] 3)).alloc (.cells #[.slice none 0 0, .int .i64 0, .int .i64 0, .int .i64 0] 54)).drew := by
  have h1 : OwnI ((V.alloc (.cells #[] 3)).alloc (.cells #[.slice none 0 0, .int .i64 0, .int .i64 0, .int .i64 0] 54)) V.heap.size (.slice (some ⟨V.heap.size, 0, none⟩) 0 0) [] := (own_none V _ (Nat.le_refl _)).below (below_alloc _ _)
  refine ⟨h1, (below_more (below_alloc _ _) _).drew, fun q e => ?_⟩
  obtain rfl := Option.some.inj e
  refine ⟨by omega, ?_⟩
  have h2 : Box ((V.alloc (.cells #[] 3)).alloc (.cells #[.slice none 0 0, .int .i64 0, .int .i64 0, .int .i64 0] 54)) (V.alloc (.cells #[] 3)).heap.size #[.slice none 0 0, .int .i64 0, .int .i64 0, .int .i64 0] 54 := Box.new _ _ _
  rw [← size_one V (.cells #[] 3)] at h2
  exact h2
theorem QI.c (V : World) : QI V (some V.heap.size) [] (.slice (some ⟨V.heap.size + 1, 0, none⟩) 0 0) ((V.alloc (.cells #[.slice none 0 0, .int .i64 0, .int .i64 0, .int .i64 0] 54)).alloc (.cells #[] 3)).drew := by
  have h1 : OwnI ((V.alloc (.cells #[.slice none 0 0, .int .i64 0, .int .i64 0, .int .i64 0] 54)).alloc (.cells #[] 3)) V.heap.size (.slice (some ⟨(V.alloc (.cells #[.slice none 0 0, .int .i64 0, .int .i64 0, .int .i64 0] 54)).heap.size, 0, none⟩) 0 0) [] := own_none (V.alloc (.cells #[.slice none 0 0, .int .i64 0, .int .i64 0, .int .i64 0] 54)) _ (below_alloc V _).size
  rw [← size_one V (.cells #[.slice none 0 0, .int .i64 0, .int .i64 0, .int .i64 0] 54)] at h1
  refine ⟨h1, (below_more (below_alloc _ _) _).drew, fun q e => ?_⟩
  obtain rfl := Option.some.inj e
  exact ⟨Nat.le_refl _, (show Box ((V.alloc (.cells #[.slice none 0 0, .int .i64 0, .int .i64 0, .int .i64 0] 54)).alloc (.cells #[] 3)) V.heap.size #[.slice none 0 0, .int .i64 0, .int .i64 0, .int .i64 0] 54 from (Box.new V _ _).below (below_alloc _ _))⟩
theorem QI.late {V w : World} {l : List Int} {v : Value} (h : QI V none l v w) : QI V (some w.heap.size) l v (w.alloc (.cells #[.slice none 0 0, .int .i64 0, .int .i64 0, .int .i64 0] 54)) :=
  ⟨h.own.below (below_alloc _ _), h.bel.alloc h.bel.size _, fun q e => by obtain rfl := Option.some.inj e; exact ⟨h.bel.size, Box.new _ _ _⟩⟩
theorem QI.app {V w : World} {xb : Option Nat} {l : List Int} {A : Option Addr} {n c : Nat} (h : QI V xb l (.slice A n c) w) (hn : l.length = n) (B : Option Addr) (m d : Nat) (k : List Int) (hm : k.length = m) (hk : IntsAt V B k) (hs : n + m ≤ 100000) :
    ∃ v' w', (Builtin.append_ #[29, 29] 29 #[.slice A n c, .slice B m d]).run Tryz.prog w = .ok v' w' ∧ ∃ A' c', v' = .slice A' (n + m) c' ∧ Hid (QI V xb (l ++ k) (.slice A' (n + m) c') w') := by
  obtain ⟨i0, hi0, hz0, hz1, hz2⟩ := info_parts3 int_info
  cases B with
  | none =>
    obtain rfl : k = [] := by
      cases k with
      | nil => rfl
      | cons z k =>
        obtain ⟨ad, h1, _⟩ := hk 0 z rfl
        cases h1
    obtain rfl : m = 0 := by simpa using hm.symm
    have hrun : (Builtin.append_ #[29, 29] 29 #[.slice A n c, .slice none 0 d]).run Tryz.prog w = .ok (.slice A n c) w := by
      rcases h.own.2 with ⟨e1, h0⟩ | ⟨g, cap, cur, e1, _, _, hnc, _⟩
      · rw [e1]
        simp [Builtin.append_, run_underlying Tryz.underlying29, sizeOf, typeInfo, hi0, Builtin.lenOf, Builtin.firstCells]
      · rw [e1]
        simp [Builtin.append_, run_underlying Tryz.underlying29, sizeOf, typeInfo, hi0, Builtin.lenOf, Builtin.firstCells, hnc, storeCells]
    exact ⟨_, w, hrun, A, c, rfl, by rw [List.append_nil]; exact h⟩
  | some ad =>
    obtain ⟨v', w', h1, h2, h3, _⟩ := run_append_own (P := Tryz.prog) w V.heap.size 29 29 3 i0 _ 1 8 Tryz.underlying29 hi0 hz0 hz1 hz2 rfl (by omega) (.slice A n c) l.length (l.map (Value.int .i64)) h.own ad m d (k.map (Value.int .i64)) (by rw [List.length_map, hm, Nat.mul_one])
      (fun j u hu => by
        rw [List.getElem?_map] at hu
        cases hz : k[j]? with
        | none => rw [hz] at hu; cases hu
        | some z =>
          rw [hz] at hu
          obtain rfl := Option.some.inj hu
          obtain ⟨ad', e, hc⟩ := (hk.below h.bel) j z hz
          obtain rfl := Option.some.inj e
          exact hc) (by intro x hx; obtain ⟨z, _, rfl⟩ := List.mem_map.1 hx; rfl) (by unfold maxLen; omega) (by omega) h.bel.size
    have ho : OwnI w' V.heap.size v' (l ++ k) := by unfold OwnI; rw [List.length_append, hm, List.map_append]; exact h2
    obtain ⟨A', c', e, _⟩ := ho.ints
    rw [List.length_append, hn, hm] at e
    subst e
    have hoff : ∀ q, (Value.slice A n c).ownBlock = some q → V.heap.size ≤ q ∧ ∃ cs : Array Value, w.heap[q]? = some (.cells cs 3 (0, 0)) := fun q e => by
      rcases h.own.2 with ⟨e1, _⟩ | ⟨g, cap, cur, e1, hbg, hg, _⟩
      · rw [e1] at e; cases e
      · rw [e1] at e
        obtain rfl := Option.some.inj e
        exact ⟨hbg, cur, hg⟩
    refine ⟨_, w', h1, A', c', rfl, ho, h.bel.trans ⟨h3.os, h3.tape, h3.output, h3.size, fun q hq => h3.block q (Nat.lt_of_lt_of_le hq h.bel.size) fun e => ?_⟩, fun q e => ?_⟩
    · have := (hoff q e.symm).1
      omega
    · obtain ⟨q1, q2⟩ := h.box q e
      refine ⟨q1, (h3.block q q2.lt fun e2 => ?_).trans q2⟩
      obtain ⟨_, cs, e3⟩ := hoff q e2.symm
      rw [show w.heap[q]? = _ from q2] at e3
      injection e3 with e3
      injection e3 with _ e3 _
      cases e3

/-- a trip in a box -/
def TBox (V : World) (r : Rt.R) (s : Value) (W : World) : Prop := ∃ q A c, s = .pointer (some ⟨q, 0, none⟩) ∧ Hid (Box W q #[.slice A r.vs.length c, .int .i64 r.back, .int .i64 r.dist, .int .i64 r.cost] 54 ∧ Below V.heap.size V W)
/-- a trip is told, and a box may be there -/
structure TP (V : World) (xb : Option Nat) (w : World) : Prop where
  bel : Below V.heap.size V w
  box : ∀ q, xb = some q → V.heap.size ≤ q ∧ Box w q #[.slice none 0 0, .int .i64 0, .int .i64 0, .int .i64 0] 54
theorem TP.new {V w : World} {r : Rt.R} {A : Option Addr} {c : Nat} (h : TP V none w) :
    TBox V r (.pointer (some ⟨w.heap.size, 0, none⟩)) (w.alloc (.cells #[.slice A r.vs.length c, .int .i64 r.back, .int .i64 r.dist, .int .i64 r.cost] 54)) :=
  ⟨_, A, c, rfl, Box.new _ _ _, h.bel.alloc h.bel.size _⟩
theorem TP.put {V w : World} {r : Rt.R} {A : Option Addr} {c q : Nat} (h : TP V (some q) w) :
    TBox V r (.pointer (some ⟨q, 0, none⟩)) ((((w.setCell ⟨q, 0, none⟩ (.slice A r.vs.length c)).setCell ⟨q, 1, none⟩ (.int .i64 r.back)).setCell ⟨q, 2, none⟩ (.int .i64 r.dist)).setCell ⟨q, 3, none⟩ (.int .i64 r.cost)) := by
  obtain ⟨h1, h2⟩ := h.box q rfl
  exact ⟨_, A, c, rfl, trip_set h2 _ _ _ _, below_set4 h.bel _ h1 _ _ _ _⟩
end Go.Proofs.YtjidelfpmlnhkaaGreat

/-! What the rows of a world hold, as the law asks it. -/
namespace Go.Proofs.YtjidelfpmlnhkaaGreat
open Go.RowKit
set_option linter.unusedVariables false
set_option maxRecDepth 100000

section
variable {N : Int} {D T : List Int} {os : List Ld.O} {ts : List Ld.T}
theorem can_ids {st : List Int} (h : Sv.canB N D T os ts st = true) : ∀ x ∈ st, ¬ Ld.findI (os.map Ld.O.id) x = -1 := fun x hx => by
  obtain ⟨t, _, ht⟩ := Sv.can_has h
  obtain ⟨hr, _⟩ := Rt.runs_of ht
  obtain ⟨j, hj⟩ := List.getElem?_of_mem hx
  exact Rt.allIn_at hr.al hj
theorem sav_two (hw : Rt.worldE N D T os ts = 0) {a b : List Int} (ha : a ≠ []) (hb : b ≠ []) (h1 : Sv.canB N D T os ts a = true) (h2 : Sv.canB N D T os ts b = true) : (Sv.savS N D T os ts a b).2 = 0 := by
  have g1 := List.length_pos_iff.2 ha
  have g2 := List.length_pos_iff.2 hb
  rw [Sv.sav_ok hw (by omega) (can_ids h1 _ (Sv.lst_mem ha)) (can_ids h2 _ (Sv.hd_mem hb))]
theorem flat_next {l : List (List Int)} {i : Nat} {a : List Int} (h : l[i]? = some a) : (l.take (i + 1)).flatten = (l.take i).flatten ++ a := by
  rw [List.take_add_one, h]
  simp
theorem flat_new {l : List (List Int)} (hl : l.flatten.Nodup) {i j : Nat} {a : List Int} {x : Int} (h : l[i]? = some a) (hx : a[j]? = some x) : x ∉ (l.take i).flatten ++ a.take j := by
  have h1 : ((l.take (i + 1)).flatten).Nodup := by
    have e : l.flatten = (l.take (i + 1)).flatten ++ (l.drop (i + 1)).flatten := by rw [← List.flatten_append, List.take_append_drop]
    rw [e, List.nodup_append] at hl
    exact hl.1
  rw [flat_next h] at h1
  have hj := (List.getElem?_eq_some_iff.1 hx).1
  have h2 : ((l.take i).flatten ++ a)[(l.take i).flatten.length + j]? = some x := by
    rw [List.getElem?_append_right (by omega), Nat.add_sub_cancel_left]
    exact hx
  have h3 := Pl.new_of h1 h2
  rw [List.take_append, List.take_of_length_le (by omega), Nat.add_sub_cancel_left] at h3
  exact h3
theorem id_in (hw : Rt.worldE N D T os ts = 0) {x : Int} (h : ¬ Ld.findI (os.map Ld.O.id) x = -1) : InR x := by
  obtain ⟨k, o, _, _, ho, rfl⟩ := Rt.find_mem Ld.O.id os x h
  have := (Rt.ok_of hw).oo o (List.mem_of_getElem? ho)
  have h1 := this.id0
  have h2 := this.id1
  exact ⟨by omega, by omega⟩
theorem flat_has {l : List (List Int)} (hf : l.flatten.Perm (Sv.aloneL N D T os ts).flatten) {o : Ld.O} (ho : o ∈ os) {r : Bool} (hr : Sv.canB N D T os ts [o.id] = r) : (if o.id ∈ l.flatten then (1 : Int) else 0) = if r = true then 1 else 0 := by
  have h1 : o.id ∈ l.flatten ↔ r = true := by
    rw [hf.mem_iff, Sv.alone_flat, List.mem_filter, hr]
    exact ⟨fun h => h.2, fun h => ⟨List.mem_map.2 ⟨o, ho, rfl⟩, h⟩⟩
  by_cases h : r = true
  · rw [if_pos (h1.2 h), if_pos h]
  · rw [if_neg (fun e => h (h1.1 e)), if_neg h]
end
theorem QI.e (V : World) : QI V none [] (.slice (some ⟨V.heap.size, 0, none⟩) 0 0) (V.alloc (.cells #[] 3)) := ⟨own_none V _ (Nat.le_refl _), below_alloc _ _, fun q e => (by cases e)⟩
end Go.Proofs.YtjidelfpmlnhkaaGreat
