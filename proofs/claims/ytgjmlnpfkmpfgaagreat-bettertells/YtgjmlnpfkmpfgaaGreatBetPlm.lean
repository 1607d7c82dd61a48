/- Texts joined: slices. Package better: Moves. -/
import Derived.Test.YtgjmlnpfkmpfgaaGreatBetPk
import Derived.Test.YtgjmlnpfkmpfgaaGreatBetRow
import Derived.Test.YtgjmlnpfkmpfgaaGreatPlanC
import Derived.Test.YtgjmlnpfkmpfgaaGreatMaths
section
/-! slices.Collect of an iterator of plans. -/
namespace Go.Proofs.YtgjmlnpfkmpfgaaGreat
open Go.RowKit Go.Shelf
set_option linter.unusedVariables false
set_option maxRecDepth 100000
attribute [local go_sem] Oper.semAt_some

/-- a box that is made now, and holds no row: nothing else turns -/
theorem below_start {w U : World} {v : Value} {T : TypeId} (hv : v.ownBlock = none) (h : KM w.heap.size (w.alloc (.cells #[v] T)) U) : Below w.heap.size w U := by
  have ha := below_alloc w (.cells #[v] T)
  refine ⟨h.os.trans ha.os, h.tape.trans ha.tape, h.output.trans ha.output, Nat.le_trans ha.size h.size, fun k hk => ?_⟩
  have hb := ha.block k hk
  have ho : w.heap[k]? = some w.heap[k] := Array.getElem?_eq_getElem hk
  rw [ho] at hb ⊢
  refine h.keep k _ (fun hm => ?_) hb
  rcases hm with e | ⟨ad, n, c, hc, _⟩
  · omega
  · have := (Box.new w #[v] T).cell 0 v rfl
    rw [this] at hc
    obtain rfl := Option.some.inj hc
    cases hv
theorem stay_start {w : World} {v : Value} {T : TypeId} (hv : v.ownBlock = none) {P : World → Prop} (h : ∀ W', Below w.heap.size w W' → P W') : Stay w.heap.size (w.alloc (.cells #[v] T)) P := fun U hU => h U (below_start hv hU)
theorem mn_own {sb : Nat} {W : World} {v : Value} {T : TypeId} (h : Box W sb #[v] T) (i : Nat) : Mn sb W i ↔ i = sb ∨ v.ownBlock = some i := by
  have hc := h.cell 0 v rfl
  unfold Mn
  rw [hc]
  constructor
  · rintro (e | ⟨ad, n, c, e1, e2⟩)
    · exact .inl e
    · obtain rfl := Option.some.inj e1
      exact .inr (by rw [e2]; rfl)
  · rintro (e | e)
    · exact .inl e
    · right
      cases v with
      | slice A n c =>
        cases A with
        | none => cases e
        | some ad => exact ⟨ad, n, c, rfl, by simpa [Value.ownBlock] using e.symm⟩
      | _ => cases e

theorem box_kept {W W' : World} {row : Option Nat} (hg : W.grownBy W' row) (hr : ∀ r, row = some r → ∃ o : Obj, W.heap[r]? = some o ∧ o.isCells = false) {i : Nat} {cs : Array Value} {t : TypeId} (h : Box W i cs t) : Box W' i cs t :=
  (hg.block i h.lt (fun e => by
    obtain ⟨o, ho, hc⟩ := hr i e.symm
    rw [show W.heap[i]? = some (.cells cs t (0, 0)) from h] at ho
    obtain rfl := Option.some.inj ho
    simp [Obj.isCells] at hc)).trans h
/-- an append, in a round or not -/
theorem listIn_append {F : Fence} (hF : Open F) {P : Program} {w : World} {ops : Array Oper} {rest : List Oper} {o : Oper} {a : Act} {Q : Exit → Act → World → Prop} (hgd : o.guard = none) (s x : Operand) (t tn : TypeId)
    (ho : o.op = .call { callee := .builtin .append, args := #[s, x], argTypes := #[t, tn] }) (vs vx : Value) (hs : a.eval s = vs) (hx : a.eval x = vx)
    (R : Value → World → Prop) (hr : ∃ v' w', (Builtin.append_ #[t, tn] o.type #[vs, vx]).run P w = .ok v' w' ∧ R v' w')
    (h : ∀ v' w', R v' w' → wpListIn F 0 P ops Q rest (a.put o.dst v') w') : wpListIn F 0 P ops Q (o :: rest) a w := by
  obtain ⟨v', w', hr, h2⟩ := hr
  have hnd : ∀ c, o.op ≠ .defer c := by rw [ho]; intro c e; cases e
  refine wpListIn_plain hgd fun K hK => ⟨fun f _ => hF.fn f, ?_⟩
  rw [hF.sem o _ hnd]
  unfold execOp
  simp only [ho, resolve, invoke, builtin, Sem.run_bind, Sem.run_pure, Result.andThen_ok, List.map_toArray, List.map_cons, List.map_nil, hs, hx, hr]
  exact hK _ _ (h v' w' h2)

/-- what has been collected -/
def CollI (w : World) (B0 : Nat) (os : List Ld.O) (xs : List (List Pl.Ro)) (k : Nat) (U : World) : Prop := ∃ (v : Value) (l : List Pd), Box U w.heap.size #[v] 36 ∧ OwnP U (w.heap.size + 1) v l ∧
  (∀ q ∈ l, StayC w.heap.size U (fun U' => PlOwn B0 U' q) ∧ q.us = Pl.restS os (ros q.rs) ∧ ∀ r ∈ q.rs, r.sm ≤ r.sc) ∧ (l.map fun q => ros q.rs) = xs.take k ∧ Below w.heap.size w U
theorem CollI.ok {w : World} {B0 : Nat} {os : List Ld.O} {xs : List (List Pl.Ro)} {k : Nat} {U : World} (h : CollI w B0 os xs k U) : MnOk w.heap.size U := fun i hi => by
  obtain ⟨v, l, h1, h2, _⟩ := h
  rcases (mn_own h1 i).1 hi with rfl | e
  · exact ⟨_, _, _, h1⟩
  · rcases h2.2 with ⟨rfl, _⟩ | ⟨g, cap, cur, rfl, _, hg, _⟩
    · cases e
    · have : g = i := by simpa [Value.ownBlock] using e
      subst this
      exact ⟨_, _, _, hg⟩
theorem CollI.own (w : World) (B0 : Nat) (os : List Ld.O) (xs : List (List Pl.Ro)) : OwnFrom w.heap.size (CollI w B0 os xs) := by
  rintro k W W' row ⟨v, l, h1, h2, h3, h4, h5⟩ hg hr
  have hr' : ∀ r, row = some r → ∃ o : Obj, W.heap[r]? = some o ∧ o.isCells = false := fun r e => (hr r e).2
  have hold : ∀ (i : Nat) (cs : Array Value) (t : TypeId) (fr : Nat × Nat), W.heap[i]? = some (.cells cs t fr) → W'.heap[i]? = some (.cells cs t fr) := fun i cs t fr ho => (hg.block i (lt_some ho) (fun e => by
    obtain ⟨o2, ho2, hc2⟩ := hr' i e.symm
    rw [ho] at ho2
    obtain rfl := Option.some.inj ho2
    simp [Obj.isCells] at hc2)).trans ho
  have hkc := kc_grown ⟨_, _, _, h1⟩ hg hr'
  refine ⟨v, l, hold _ _ _ _ h1, ?_, fun q hq => ⟨(h3 q hq).1.step hkc, (h3 q hq).2⟩, h4, ⟨hg.os.trans h5.os, hg.tape.trans h5.tape, hg.output.trans h5.output, Nat.le_trans h5.size hg.size, fun k hk => (hg.block k (Nat.lt_of_lt_of_le hk h5.size) (fun e => by have := (hr k e.symm).1; omega)).trans (h5.block k hk)⟩⟩
  obtain ⟨e1, e2⟩ := h2
  refine ⟨e1, ?_⟩
  rcases e2 with e2 | ⟨g, cap, cur, hv, hgb, hh, r⟩
  · exact .inl e2
  · exact .inr ⟨g, cap, cur, hv, hgb, hold _ _ _ _ hh, r⟩
/-- one more -/
theorem CollI.more {w : World} {B0 : Nat} {os : List Ld.O} {xs : List (List Pl.Ro)} {k : Nat} {U : World} {v : Value} {l : List Pd} {q : Pd} {b5 : Nat} (h1 : Box U w.heap.size #[v] 36) (h2 : OwnP U (w.heap.size + 1) v l)
    (h3 : ∀ q ∈ l, StayC w.heap.size U (fun U' => PlOwn B0 U' q) ∧ q.us = Pl.restS os (ros q.rs) ∧ ∀ r ∈ q.rs, r.sm ≤ r.sc) (h4 : (l.map fun q => ros q.rs) = xs.take k) (h5 : Below w.heap.size w U) (hx : xs[k]? = some (ros q.rs)) (hq : StayC w.heap.size U (fun U' => PlOwn B0 U' q) ∧ q.us = Pl.restS os (ros q.rs) ∧ ∀ r ∈ q.rs, r.sm ≤ r.sc) (hN : xs.length ≤ 20000) :
    ∃ v' w', (Builtin.append_ #[36, 36] 36 #[v, .slice (some ⟨U.heap.size, 0, none⟩) 1 1]).run Tryz.prog (U.alloc (.cells #[.slice q.rA q.rm q.rc, .slice q.uA q.um q.uc] 32)) = .ok v' w' ∧ ∃ A' m' c', v' = .slice A' m' c' ∧ (∃ z, w'.cell? ⟨w.heap.size, 0, none⟩ = some z) ∧ w'.frozen? ⟨w.heap.size, 0, none⟩ = false ∧
      Hid (KM w.heap.size U (w'.setCell ⟨w.heap.size, 0, none⟩ (.slice A' m' c')) ∧ CollI w B0 os xs (k + 1) (w'.setCell ⟨w.heap.size, 0, none⟩ (.slice A' m' c'))) := by
  have ha := below_alloc U (.cells #[.slice q.rA q.rm q.rc, .slice q.uA q.um q.uc] 32)
  have hbx := Box.new U #[.slice q.rA q.rm q.rc, .slice q.uA q.um q.uc] 32
  have hll : l.length = k := by
    have := congrArg List.length h4
    rw [List.length_map, List.length_take] at this
    have := (List.getElem?_eq_some_iff.1 hx).1
    omega
  have hkx := (List.getElem?_eq_some_iff.1 hx).1
  have hrow : RowsP (U.alloc (.cells #[.slice q.rA q.rm q.rc, .slice q.uA q.um q.uc] 32)) (some ⟨U.heap.size, 0, none⟩) [q] := fun j s hk => by
    have hk0 : j = 0 := by have := (List.getElem?_eq_some_iff.1 hk).1; simp at this; exact this
    subst hk0
    obtain rfl : q = s := by simpa using hk
    refine ⟨_, rfl, ?_, ?_⟩
    · rw [add_flat]; exact hbx.cell 0 _ rfl
    · rw [add_flat]; exact hbx.cell 1 _ rfl
  have hsbl := h1.lt
  obtain ⟨v', w', e1, ⟨A', c', rfl⟩, h6⟩ := ownp_app_at (h2.below ha) (Nat.le_trans hsbl ha.size) (some ⟨U.heap.size, 0, none⟩) 1 1 [q] rfl hrow (by rw [hll]; omega) (l.length + 1) (by rw [List.length_append]; rfl)
  obtain ⟨k1, k2, k3, k4, k5⟩ := h6.out
  have hsz : U.heap.size < (U.alloc (.cells #[.slice q.rA q.rm q.rc, .slice q.uA q.um q.uc] 32)).heap.size := by simp
  have hbox' : Box w' w.heap.size #[v] 36 := (k2.block w.heap.size (by omega)).trans ((ha.block _ hsbl).trans h1)
  have hbox3 : Box (w'.setCell ⟨w.heap.size, 0, none⟩ (.slice A' (l.length + 1) c')) w.heap.size #[.slice A' (l.length + 1) c'] 36 := hbox'.set 0 _ _ rfl
  have hoth : ∀ i, i ≠ w.heap.size → (w'.setCell ⟨w.heap.size, 0, none⟩ (.slice A' (l.length + 1) c')).heap[i]? = w'.heap[i]? := fun i hi => Go.Deep.blk_setCell_other _ _ _ _ hi
  have hsize : (w'.setCell ⟨w.heap.size, 0, none⟩ (.slice A' (l.length + 1) c')).heap.size = w'.heap.size := Go.Deep.nblk_setCell _ _ _
  have hkm : KM w.heap.size U (w'.setCell ⟨w.heap.size, 0, none⟩ (.slice A' (l.length + 1) c')) := by
    refine ⟨k2.os.trans ha.os, k2.tape.trans ha.tape, k2.output.trans ha.output, by rw [hsize]; omega, fun i hi hm => ?_, fun i o hn ho => ?_⟩
    · rcases (mn_own hbox3 i).1 hm with e | e
      · exact (mn_own h1 i).2 (.inl e)
      · rcases k5 with k5 | k5
        · exact (mn_own h1 i).2 (.inr (k5 ▸ e))
        · rw [k5] at e
          have := Option.some.inj e
          omega
    · have hne : i ≠ w.heap.size := fun e => hn (.inl e)
      have hil := lt_some ho
      rw [hoth i hne, k3 i (by omega) (fun e => hn ((mn_own h1 i).2 (.inr e))), ha.block i hil]
      exact ho
  refine ⟨_, w', e1, A', l.length + 1, c', rfl, ⟨_, hbox'.cell 0 _ rfl⟩, hbox'.fz 0, hkm, _, l ++ [q], hbox3, k1.put fun j hj _ => hoth j (by omega), fun s hs => ?_, ?_, ?_⟩
  · rcases List.mem_append.1 hs with hs | hs
    · exact ⟨(h3 s hs).1.step hkm.kc, (h3 s hs).2⟩
    · obtain rfl := List.mem_singleton.1 hs
      exact ⟨hq.1.step hkm.kc, hq.2⟩
  · rw [List.map_append, h4, List.take_add_one, hx]; rfl
  · exact ((h5.trans (ha.mono h5.size)).trans (k2.mono (by omega))).setCell (p := ⟨w.heap.size, 0, none⟩) (Nat.le_refl _) _

/-- a list of plans of its own is told -/
def CollPost (w : World) (B0 : Nat) (os : List Ld.O) (xs : List (List Pl.Ro)) (e : Ending) (w' : World) : Prop := ∃ A m c l, e = .returned (.slice A m c) ∧ Hid (Below w.heap.size w w' ∧ OwnP w' (w.heap.size + 1) (.slice A m c) l ∧ (∀ q ∈ l, PlOwn B0 w' q ∧ q.us = Pl.restS os (ros q.rs) ∧ ∀ r ∈ q.rs, r.sm ≤ r.sc) ∧ (l.map fun q => ros q.rs) = xs)

set_option maxHeartbeats 4000000 in
theorem append_seq_b (gf : Nat) (lv : Array Value) (B0 : Nat) (os : List Ld.O) (xs : List (List Pl.Ro)) (w : World) (hN : xs.length ≤ 20000) (eg : ∀ args w, (callFunc gf args).run Tryz.prog w = .ok (.enter gf args) w)
    (hG : Gives w.heap.size Tryz.prog gf lv (PV w.heap.size B0 os) xs (w.alloc (.cells #[.slice none 0 0] 36))) :
    Calls Tryz.prog 42 #[.slice none 0 0, .func (.func gf) #[] lv] w (CollPost w B0 os xs) := by
  have HG := Lib.hid hG
  have HE := Lib.hid eg
  have HI0 : Hid (CollI w B0 os xs 0 (w.alloc (.cells #[.slice none 0 0] 36))) := ⟨_, [], Box.new w _ _, ownP_nil _ _, (fun q h => by cases h), rfl, below_alloc _ _⟩
  clear hG eg
  refine (callsIn_wide (n := 0)).1 ?_
  refine callsIn_of_wp_marks Tryz.func42 rfl trivial ?_ rfl
  simp only [Tryz.ntmps42, List.size_toArray, List.length_cons, List.length_nil, Nat.reduceAdd, Nat.reduceSub, Array.replicate_succ, Array.replicate_zero, List.push_toArray, List.append_toArray, List.nil_append, List.cons_append]
  gi_wp2
  have HWS : Hid (w.heap.size ≤ (w.alloc (.cells #[.slice none 0 0] 36)).heap.size) := (below_alloc _ _).size
  generalize w.alloc (.cells #[.slice none 0 0] 36) = V at *
  refine range_it (sb := w.heap.size) (gf := gf) (lv := lv) rfl HE.out (pv_own w.heap.size B0 os) HG.out (KM.refl _ V) (CollI w B0 os xs) (fun _ _ => False) (OwnFrom.up (CollI.own w B0 os xs) HWS.out) (fun _ _ _ _ _ h _ _ => h) (fun k U h => h.ok) HI0.out
    (fun v a' U => ∃ (b5 : Nat) (cs : Array Value), v = .agg cs ∧ Box U b5 cs 32 ∧ a' = { tmps := #[.slice none 0 0, .func (.func gf) #[] lv, .pointer (some ⟨w.heap.size, 0, none⟩), undef, .slice none 0 0, .pointer (some ⟨b5, 0, none⟩), .func (.func gf) #[] lv, v, undef, undef, undef, undef, undef], defers := [] })
    (fun v a' _ A B row h hg hr => by
      obtain ⟨b5, cs, e1, hb, e2⟩ := h
      exact ⟨b5, cs, e1, box_kept hg (fun r e => (hr r e).2) hb, e2⟩) ?assign ?body ?done ?stop
  case assign =>
    rintro l k x v U K hx hi ⟨q, rfl, hq⟩ hK
    gi_wp2
    exact hK _ _ (below_alloc _ _) ⟨_, _, rfl, Box.new U _ _, rfl⟩ (own_below (Own.from (pv_own w.heap.size B0 os x (.agg #[.slice q.rA q.rm q.rc, .slice q.uA q.um q.uc])) 0) (s := ()) ⟨q, rfl, hq⟩ (below_alloc _ _))
  case body =>
    rintro l k x v a' U hx ⟨v0, rl, h1, h2, h3, h4, h5⟩ hkm ⟨q, rfl, hsb, hst, hro, hus, hcap⟩ ⟨b5, cs, e1, hb, rfl⟩
    injection e1 with e1
    subst e1
    have HAP := Lib.hid (CollI.more (b5 := b5) h1 h2 h3 h4 h5 (by rw [hro]; exact hx) ⟨hst, by rw [hro]; exact hus, hcap⟩ hN)
    obtain ⟨A0, c0, e0, _⟩ := h2.row
    subst e0
    have y0 := h1.cell 0 _ rfl
    have z0 := hb.cell 0 _ rfl
    have z1 := hb.cell 1 _ rfl
    clear h1 h2 h3 h4 h5 hkm hsb hst hro hus hcap hb hx
    gi_wp2_with (gi_at_builtin; refine listIn_append (.inr ⟨_, rfl⟩) rfl (.tmp 8) (.tmp 10) 36 36 rfl _ _ rfl rfl _ HAP.out ?_; intro v6 w6 hc6; obtain ⟨A6, m6, c6, rfl, ⟨zz, u1⟩, u2, u3⟩ := hc6)
    exact u3.out
  case done =>
    rintro D U hD hI hkm hdf
    have HI := Lib.hid hI
    have HMK : Hid (Mks V.heap.size [{ target := .collected D, args := #[] }] U) := (Mks.nil _ _).cons hD (fun d h => by cases h) hdf
    obtain ⟨v, l, h1, h2, _⟩ := hI
    obtain ⟨A, c, rfl, _⟩ := h2.row
    have HV2 : Hid (Box U w.heap.size #[.slice A l.length c] 36 ∧ OwnP U (w.heap.size + 1) (.slice A l.length c) l) := ⟨h1, h2⟩
    have y0 := h1.cell 0 _ rfl
    clear hkm hdf h1 h2
    gi_wp2
    refine leaves_marks (I := fun U2 => CollI w B0 os xs xs.length U2 ∧ Box U2 w.heap.size #[.slice A l.length c] 36) (fun s A' B' row h hg hr => ⟨OwnFrom.up (CollI.own w B0 os xs) HWS.out _ A' B' row h.1 hg hr, box_kept hg (fun r e => (hr r e).2) h.2⟩)
      (fun U2 h => ⟨_, results_tmp rfl _ _ _, ?_⟩) _ _ HMK.out ⟨HI.out, HV2.out.1⟩
    obtain ⟨⟨v2, l2, g1, g2, g3, g4, g5⟩, g6⟩ := h
    have e : v2 = .slice A l.length c := by
      have h1 := g1.cell 0 _ rfl
      rw [g6.cell 0 _ rfl] at h1
      exact (Option.some.inj h1).symm
    subst e
    exact ⟨A, l.length, c, l2, rfl, g5, g2, fun q hq => ⟨(g3 q hq).1.now, (g3 q hq).2⟩, by rw [g4, List.take_length]⟩
  case stop =>
    rintro D c U hD h _
    exact h.elim

set_option maxHeartbeats 1000000 in
theorem collect_b (gf : Nat) (lv : Array Value) (B0 : Nat) (os : List Ld.O) (xs : List (List Pl.Ro)) (w : World) (hN : xs.length ≤ 20000) (eg : ∀ args w, (callFunc gf args).run Tryz.prog w = .ok (.enter gf args) w)
    (hG : Gives w.heap.size Tryz.prog gf lv (PV w.heap.size B0 os) xs (w.alloc (.cells #[.slice none 0 0] 36))) :
    Calls Tryz.prog 22 #[.func (.func gf) #[] lv] w (CollPost w B0 os xs) := by
  have HC := Lib.hid (append_seq_b gf lv B0 os xs w hN eg hG)
  clear hG eg
  go_enter Tryz.func22, Tryz.ntmps22
  go_wp2_with (go_at_call 42; refine HC.out.mono ?_; rintro e w2 ⟨A, m, c, l, rfl, h⟩)
  go_ret
  exact ⟨A, m, c, l, rfl, h⟩
end Go.Proofs.YtgjmlnpfkmpfgaaGreat
end

section
/-! Package better: Moves. -/
namespace Bt
open Pl Ld
theorem at_le (rs : List Ro) (i : Nat) : (stAt rs i).length ≤ (stops rs).length := by
  unfold stAt
  cases h : rs[i]? with
  | none => exact Nat.zero_le _
  | some r =>
    show r.st.length ≤ _
    have hm := List.mem_of_getElem? h
    unfold stops
    clear h
    induction rs with
    | nil => cases hm
    | cons a l ih =>
      rw [List.flatMap_cons, List.length_append]
      rcases List.mem_cons.1 hm with rfl | hm
      · omega
      · have := ih hm; omega
theorem sm_of {N : Int} {D T : List Int} {os : List O} {ts : List Ld.T} {rs : List Ro} {us : List Int} (h : May N D T os ts rs us) : Sm rs ∧ us.length ≤ 12 ∧ (ts.map Ld.T.id).length ≤ 6 := by
  have h1 := h.all_len
  have h2 := (Rt.ok_of h.w).ol
  have h3 := (Rt.ok_of h.w).tl
  rw [List.length_append] at h1
  exact ⟨⟨h.l6, fun i => by have := at_le rs i; omega⟩, by omega, by rw [List.length_map]; exact h3⟩
theorem movesL_len {p : List Ro} (h : Sm p) {us ids : List Int} (hu : us.length ≤ 12) (hi : ids.length ≤ 6) : (movesL p us ids).length ≤ 20000 := by
  have h1 := ins3_len h hu
  have h2 := open2_len p hu hi
  have h3 := mov4_len h (m := p.length) h.n6
  have h4 := trn3_len h (m := p.length) h.n6
  have h5 := swp4_len h (m := p.length) h.n6
  unfold movesL moreL movedL swapL
  simp only [List.length_map, List.length_append]
  omega
end Bt
namespace Go.Proofs.YtgjmlnpfkmpfgaaGreat
open Go.RowKit Go.Shelf
set_option linter.unusedVariables false
set_option maxRecDepth 100000

theorem pls_of {N : Int} {D T : List Int} {os : List Ld.O} {ts : List Ld.T} {w : World} {p : Pd} (h : Pl.May N D T os ts (ros p.rs) p.us) (hp : PAt w p) (hcap : ∀ r ∈ p.rs, r.sm ≤ r.sc) : PlS w p := by
  obtain ⟨h1, h2, _⟩ := Bt.sm_of h
  have h3 := h1.n6
  rw [ros_len, hp.rl] at h3
  refine ⟨⟨hp.rl, by omega, hp.rows, fun r hr => ⟨hp.ra r hr, ?_⟩⟩, by omega, hp.ul, by rw [← hp.ul]; omega, hp.us, hcap⟩
  obtain ⟨k, hk⟩ := List.getElem?_of_mem hr
  have h4 := h1.s12 k
  rw [Bt.stAt_at (ros_at hk)] at h4
  have h5 := (hp.ra r hr).sl
  have h6 : r.ro.st.length = r.st.length := rfl
  omega

/-- a plan and a world as parameters, boxed -/
theorem pls_below {w W : World} {p : Pd} (h : PlS w p) (hb : Below w.heap.size w W) : PlS W p := ⟨h.rts.below hb, h.m7, h.ul, h.u2, h.us.below hb, h.cap⟩

set_option maxHeartbeats 2000000 in
theorem moves_no (x : Wd) (p : Pd) (w : World) (z : Int) (hc : Pl.checkS x.N x.D x.T x.os x.ts (ros p.rs) p.us = (0, z)) (hz : z ≠ 0) (hx : WAt w x) (hp : PAt w p) :
    Calls Tryz.prog 10 #[.agg #[.int .i64 x.N, .slice x.dA x.dm x.dc, .slice x.tA x.tm x.tc, .slice x.A x.m x.c, .slice x.B x.k x.d], .agg #[.slice p.rA p.rm p.rc, .slice p.uA p.um p.uc]] w fun e w' => e = .returned (.slice none 0 0) ∧ Hid (Below w.heap.size w w') := by
  have HW := Lib.hid (WPB.new hx hp)
  have HB0 : Hid (Below w.heap.size w ((w.alloc (.cells #[.int .i64 x.N, .slice x.dA x.dm x.dc, .slice x.tA x.tm x.tc, .slice x.A x.m x.c, .slice x.B x.k x.d] 28)).alloc (.cells #[.slice p.rA p.rm p.rc, .slice p.uA p.um p.uc] 32))) := below_more (below_alloc _ _) _
  have HCK := Lib.hid (check_b x p _ (0, z) hc HW.out.w.at_ HW.out.p.at_)
  have d1 : (z != 0) = true := by simpa using hz
  have x0 := HW.out.w.c0
  have x1 := HW.out.w.c1
  have x2 := HW.out.w.c2
  have x3 := HW.out.w.c3
  have x4 := HW.out.w.c4
  have y0 := HW.out.p.c0
  have y1 := HW.out.p.c1
  clear hx hp hc
  go_enter Tryz.func10, Tryz.ntmps10
  go_wp2_with fail
  clear x0 x1 x2 x3 x4 y0 y1
  with_reducible refine HCK.out.mono ?_
  rintro e w1 ⟨rfl, hb1⟩
  have HB1 := Lib.hid (below_next HB0.out hb1.out)
  go_wp2
  go_ret
  exact ⟨rfl, HB1.out⟩

set_option maxHeartbeats 2000000 in
theorem moves_yes (x : Wd) (p : Pd) (w : World) (z : Int) (hc : Pl.checkS x.N x.D x.T x.os x.ts (ros p.rs) p.us = (z, 0)) (hx : WAt w x) (hp : PAt w p) (hcap : ∀ r ∈ p.rs, r.sm ≤ r.sc) :
    Calls Tryz.prog 10 #[.agg #[.int .i64 x.N, .slice x.dA x.dm x.dc, .slice x.tA x.tm x.tc, .slice x.A x.m x.c, .slice x.B x.k x.d], .agg #[.slice p.rA p.rm p.rc, .slice p.uA p.um p.uc]] w (fun e w' => ∃ A m c l, e = .returned (.slice A m c) ∧ Hid (Below w.heap.size w w' ∧ OwnP w' w.heap.size (.slice A m c) l ∧ (∀ q ∈ l, PlOwn w.heap.size w' q ∧ q.us = Pl.restS x.os (ros q.rs) ∧ ∀ r ∈ q.rs, r.sm ≤ r.sc) ∧ (l.map fun q => ros q.rs) = Bt.movesL (ros p.rs) p.us (x.ts.map Ld.T.id))) := by
  have hmay := (Pl.may_of (by rw [hc])).1
  have HPL := Lib.hid (pls_of hmay hp hcap)
  have HLEN := Lib.hid (Bt.movesL_len (Bt.sm_of hmay).1 (Bt.sm_of hmay).2.1 (Bt.sm_of hmay).2.2)
  have HW := Lib.hid (WPB.new hx hp)
  have HX := Lib.hid hx
  have HB0 : Hid (Below w.heap.size w ((w.alloc (.cells #[.int .i64 x.N, .slice x.dA x.dm x.dc, .slice x.tA x.tm x.tc, .slice x.A x.m x.c, .slice x.B x.k x.d] 28)).alloc (.cells #[.slice p.rA p.rm p.rc, .slice p.uA p.um p.uc] 32))) := below_more (below_alloc _ _) _
  have HCK := Lib.hid (check_b x p _ (z, 0) hc HW.out.w.at_ HW.out.p.at_)
  have x0 := HW.out.w.c0
  have x1 := HW.out.w.c1
  have x2 := HW.out.w.c2
  have x3 := HW.out.w.c3
  have x4 := HW.out.w.c4
  have y0 := HW.out.p.c0
  have y1 := HW.out.p.c1
  clear hx hp hc hmay hcap
  go_enter Tryz.func10, Tryz.ntmps10
  go_wp2_with fail
  clear x0 x1 x2 x3 x4 y0 y1
  generalize (w.alloc (.cells #[.int .i64 x.N, .slice x.dA x.dm x.dc, .slice x.tA x.tm x.tc, .slice x.A x.m x.c, .slice x.B x.k x.d] 28)).alloc (.cells #[.slice p.rA p.rm p.rc, .slice p.uA p.um p.uc] 32) = V at *
  with_reducible refine HCK.out.mono ?_
  rintro e w1 ⟨rfl, hb1⟩
  have HB1 := Lib.hid (below_next HB0.out hb1.out)
  have HW1 := Lib.hid (HW.out.below hb1.out)
  have x0 := HW1.out.w.c0
  have x1 := HW1.out.w.c1
  have x2 := HW1.out.w.c2
  have x3 := HW1.out.w.c3
  have x4 := HW1.out.w.c4
  have y0 := HW1.out.p.c0
  have y1 := HW1.out.p.c1
  clear HCK
  go_wp2_with fail
  clear x0 x1 x2 x3 x4 y0 y1
  with_reducible refine (tries_b x p w1).mono ?_
  rintro e w2 ⟨rfl, rfl⟩
  have hb2 : Below w.heap.size w ((w1.alloc (.cells #[.int .i64 x.N, .slice x.dA x.dm x.dc, .slice x.tA x.tm x.tc, .slice x.A x.m x.c, .slice x.B x.k x.d] 28)).alloc (.cells #[.slice p.rA p.rm p.rc, .slice p.uA p.um p.uc] 32)) := below_next HB1.out (below_more (below_alloc _ _) _)
  have hbx : Box ((w1.alloc (.cells #[.int .i64 x.N, .slice x.dA x.dm x.dc, .slice x.tA x.tm x.tc, .slice x.A x.m x.c, .slice x.B x.k x.d] 28)).alloc (.cells #[.slice p.rA p.rm p.rc, .slice p.uA p.um p.uc] 32)) w1.heap.size x.cells 28 := (Box.new w1 _ _).below (below_alloc _ _)
  have hbp : Box ((w1.alloc (.cells #[.int .i64 x.N, .slice x.dA x.dm x.dc, .slice x.tA x.tm x.tc, .slice x.A x.m x.c, .slice x.B x.k x.d] 28)).alloc (.cells #[.slice p.rA p.rm p.rc, .slice p.uA p.um p.uc] 32)) (w1.heap.size + 1) p.cells 32 := by
    rw [size_one w1 (.cells #[.int .i64 x.N, .slice x.dA x.dm x.dc, .slice x.tA x.tm x.tc, .slice x.A x.m x.c, .slice x.B x.k x.d] 28)]
    exact Box.new (w1.alloc _) _ _
  generalize (w1.alloc (.cells #[.int .i64 x.N, .slice x.dA x.dm x.dc, .slice x.tA x.tm x.tc, .slice x.A x.m x.c, .slice x.B x.k x.d] 28)).alloc (.cells #[.slice p.rA p.rm p.rc, .slice p.uA p.um p.uc] 32) = w2 at *
  have HCO := Lib.hid (collect_b 43 #[.pointer (some ⟨w1.heap.size + 1, 0, none⟩), .pointer (some ⟨w1.heap.size, 0, none⟩)] w.heap.size x.os _ w2 HLEN.out (enters_of Tryz.func43 (by kernel_rfl) rfl)
    (tri1_b w2.heap.size (w1.heap.size + 1) w1.heap.size w.heap.size p x _ (Nat.le_trans hb2.size (below_alloc w2 _).size) (stay_start rfl fun W' hb => ⟨hbp.below hb, pls_below (pls_below HPL.out hb2) hb, hbx.below hb, (HX.out.below hb2).below hb⟩)))
  have HB2 := Lib.hid hb2
  clear hb2 hbx hbp
  go_wp2_with fail
  with_reducible refine HCO.out.mono ?_
  rintro e w3 ⟨A, m, c, l, rfl, h⟩
  go_wp2
  go_ret
  exact ⟨A, m, c, l, rfl, below_next HB2.out h.out.1, h.out.2.1.lower (by have := HB2.out.size; omega), h.out.2.2.1, h.out.2.2.2⟩
end Go.Proofs.YtgjmlnpfkmpfgaaGreat
end
