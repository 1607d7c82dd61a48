/- Contracts of package plan: Copy; slices.Clone of numbers and of routes. -/
import Derived.Test.YtgjmlnpfkmpfgaaGreatPlanRow
import Derived.Test.YtgjmlnpfkmpfgaaGreatPlanD
import Derived.Lib.LazyBuf
namespace Go.Proofs.YtgjmlnpfkmpfgaaGreat
open Go.RowKit
set_option linter.unusedVariables false
set_option maxRecDepth 100000

set_option maxHeartbeats 1000000 in
theorem clone_i (A : Option Addr) (n c : Nat) (l : List Int) (w : World) (hn : l.length = n) (hn2 : n ≤ 100000) (h : IntsAt w A l) :
    Calls Tryz.prog 40 #[.slice A n c] w fun e w' => ∃ A' c', e = .returned (.slice A' n c') ∧ Hid (OwnI w' w.heap.size (.slice A' n c') l ∧ Below w.heap.size w w') := by
  cases A with
  | none =>
    have hl0 : l = [] := by
      cases l with
      | nil => rfl
      | cons z l =>
        obtain ⟨ad, h1, _⟩ := h 0 z rfl
        cases h1
    subst hl0
    obtain rfl : n = 0 := by simpa using hn.symm
    have HO := Lib.hid (ownI_nil w w.heap.size)
    have hq : ∀ W : World, (binOp .eql 30 (.slice none 0 c) (.slice none 0 0)).run Tryz.prog W = .ok (.bool true) W := fun W => _root_.Go.run_eql_slice_nil W 30 3 none 0 c Tryz.underlying30
    clear h hn
    go_enter Tryz.func40, Tryz.ntmps40
    go_wp2
    go_ret
    exact ⟨none, 0, rfl, HO.out, Below.refl _ _⟩
  | some ad =>
    have hq : ∀ W : World, (binOp .eql 30 (.slice (some ad) n c) (.slice none 0 0)).run Tryz.prog W = .ok (.bool false) W := fun W => _root_.Go.run_eql_slice_nil W 30 3 (some ad) n c Tryz.underlying30
    have HA : Hid (∃ v' w', (Builtin.append_ #[30, 30] 30 #[.slice (some ⟨w.heap.size, 0, none⟩) 0 0, .slice (some ad) n c]).run Tryz.prog (w.alloc (.cells #[] 3)) = .ok v' w' ∧ ∃ A' c', v' = .slice A' n c' ∧ Hid (OwnI w' w.heap.size (.slice A' n c') l ∧ Below w.heap.size w w')) := by
      obtain ⟨v', w', h1, A', c', e, h2⟩ := (by simpa using owni_app (own_none w w.heap.size (Nat.le_refl _)) (by simp) (some ad) n c l hn (h.below (below_alloc w _)) (by simp; exact hn2))
      exact ⟨v', w', h1, A', c', e, by rw [← e]; exact h2.out.1, (below_alloc w _).trans h2.out.2⟩
    clear h hn
    go_enter Tryz.func40, Tryz.ntmps40
    go_wp2_with (at_builtin; refine wpList_append_any rfl (.tmp 5) (.tmp 6) 30 30 rfl _ _ rfl rfl _ HA.out ?_; intro v1 w1 hc1; obtain ⟨A1, c1, rfl, HC1⟩ := hc1)
    go_ret
    exact ⟨A1, c1, rfl, HC1.out⟩

set_option maxHeartbeats 1000000 in
theorem clone_r (A : Option Addr) (n c : Nat) (l : List Rd) (w : World) (hn : l.length = n) (hn2 : n ≤ 100000) (h : RowsR w A l) :
    Calls Tryz.prog 39 #[.slice A n c] w fun e w' => ∃ A' c', e = .returned (.slice A' n c') ∧ Hid (OwnQ w' w.heap.size (.slice A' n c') l ∧ Below w.heap.size w w') := by
  cases A with
  | none =>
    have hl0 : l = [] := by
      cases l with
      | nil => rfl
      | cons z l =>
        obtain ⟨ad, h1, _⟩ := h 0 z rfl
        cases h1
    subst hl0
    obtain rfl : n = 0 := by simpa using hn.symm
    have HO := Lib.hid (ownQ_nil w w.heap.size)
    have hq : ∀ W : World, (binOp .eql 29 (.slice none 0 c) (.slice none 0 0)).run Tryz.prog W = .ok (.bool true) W := fun W => _root_.Go.run_eql_slice_nil W 29 49 none 0 c Tryz.underlying29
    clear h hn
    go_enter Tryz.func39, Tryz.ntmps39
    go_wp2
    go_ret
    exact ⟨none, 0, rfl, HO.out, Below.refl _ _⟩
  | some ad =>
    have hq : ∀ W : World, (binOp .eql 29 (.slice (some ad) n c) (.slice none 0 0)).run Tryz.prog W = .ok (.bool false) W := fun W => _root_.Go.run_eql_slice_nil W 29 49 (some ad) n c Tryz.underlying29
    have HA : Hid (∃ v' w', (Builtin.append_ #[29, 29] 29 #[.slice (some ⟨w.heap.size, 0, none⟩) 0 0, .slice (some ad) n c]).run Tryz.prog (w.alloc (.cells #[] 49)) = .ok v' w' ∧ ∃ A' c', v' = .slice A' n c' ∧ Hid (OwnQ w' w.heap.size (.slice A' n c') l ∧ Below w.heap.size w w')) := by
      obtain ⟨v', w', h1, A', c', e, h2⟩ := ownq_app (l := []) (ownQ_none w w.heap.size (Nat.le_refl _)) (by simp) (some ad) n c l hn (h.below (below_alloc w _)) (by simp; exact hn2) n (by simpa using hn)
      exact ⟨v', w', h1, A', c', e, h2.out.1, (below_alloc w _).trans h2.out.2⟩
    clear h hn
    go_enter Tryz.func39, Tryz.ntmps39
    go_wp2_with (at_builtin; refine wpList_append_any rfl (.tmp 5) (.tmp 6) 29 29 rfl _ _ rfl rfl _ HA.out ?_; intro v1 w1 hc1; obtain ⟨A1, c1, rfl, HC1⟩ := hc1)
    go_ret
    exact ⟨A1, c1, rfl, HC1.out⟩

theorem OwnI.mono {W : World} {b b' : Nat} {v : Value} {l : List Int} (h : OwnI W b v l) (hb : b' ≤ b) : OwnI W b' v l := by
  obtain ⟨h1, h2⟩ := h
  refine ⟨h1, ?_⟩
  rcases h2 with h2 | ⟨g, cap, cur, hv, hg, r⟩
  · exact .inl h2
  · exact .inr ⟨g, cap, cur, hv, Nat.le_trans hb hg, r⟩
theorem OwnQ.mono {W : World} {b b' : Nat} {v : Value} {l : List Rd} (h : OwnQ W b v l) (hb : b' ≤ b) : OwnQ W b' v l := by
  obtain ⟨h1, h2⟩ := h
  refine ⟨h1, ?_⟩
  rcases h2 with h2 | ⟨g, cap, cur, hv, hg, r⟩
  · exact .inl h2
  · exact .inr ⟨g, cap, cur, hv, Nat.le_trans hb hg, r⟩
theorem OwnI.len {W : World} {b n c : Nat} {A : Option Addr} {l : List Int} (h : OwnI W b (.slice A n c) l) : l.length = n ∧ n ≤ c ∧ IntsAt W A l := by
  obtain ⟨A', c', e, h1, _, h2⟩ := h.ints
  injection e with e1 e2 e3
  subst e1 e2 e3
  exact ⟨rfl, h1, h2⟩
theorem OwnQ.len {W : World} {b n c : Nat} {A : Option Addr} {l : List Rd} (h : OwnQ W b (.slice A n c) l) : l.length = n ∧ n ≤ c ∧ RowsR W A l ∧ ∀ ad, A = some ad → b ≤ ad.block ∧ ad.block < W.heap.size ∧ ad.off = 0 ∧ ad.spot = none := by
  obtain ⟨A', c', e, h1, _, h2, h3⟩ := h.row
  injection e with e1 e2 e3
  subst e1 e2 e3
  exact ⟨rfl, h1, h2, h3⟩

/-- a plan's copy -/
structure CopiedP (w w' : World) (p q : Pd) : Prop where
  bel : Below w.heap.size w w'
  at_ : PAt w' q
  ro : ros q.rs = ros p.rs
  us : q.us = p.us
  um : q.um = p.um
  rm : q.rm = p.rm
  own : ∃ h, w.heap.size ≤ h ∧ OwnQ w' w.heap.size (.slice q.rA q.rm q.rc) q.rs ∧ (∀ ad, q.rA = some ad → ad.block < h) ∧ ∀ r ∈ q.rs, OwnI w' h (.slice r.sA r.sm r.sc) r.st
  uo : OwnI w' w.heap.size (.slice q.uA q.um q.uc) q.us
def CopyPost (w : World) (p : Pd) (e : Ending) (w' : World) : Prop := ∃ q : Pd, e = .returned (.agg #[.slice q.rA q.rm q.rc, .slice q.uA q.um q.uc]) ∧ Hid (CopiedP w w' p q)

theorem und_plan : Tryz.prog.underlying 32 = some (.struct ((match Tryz.prog.underlying 32 with | some (.struct fs) => fs | _ => #[]))) := by kernel_rfl
theorem size_plan : (Tryz.prog.info? 32).map (·.size) = some 2 := by kernel_rfl
theorem load_plan {W : World} {b : Nat} {cs : Array Value} (h : Box W b cs 32) (hs : cs.size = 2) : (loadVar 32 ⟨b, 0, none⟩).run Tryz.prog W = .ok (.agg cs) W :=
  run_loadVar_row W b _ _ cs (0, 0) _ h und_plan rfl (by rw [hs]; exact size_plan)
theorem results_plan {fn : Func} {p : Tmp} (h : fn.results = #[.cell p 32]) (tmps : Array Value) {W : World} {b : Nat} {cs : Array Value} (hb : Box W b cs 32) (hs : cs.size = 2) (hp : tmps.getD p undef = .pointer (some ⟨b, 0, none⟩)) :
    (results fn tmps).run Tryz.prog W = .ok (.agg cs) W :=
  results_cell_row h tmps W b _ cs (0, 0) _ hp hb und_plan rfl (by rw [hs]; exact size_plan)
theorem plan_set {W : World} {b : Nat} {x0 x1 : Value} (h : Box W b #[x0, x1] 32) (v0 v1 : Value) : Box ((W.setCell ⟨b, 0, none⟩ v0).setCell ⟨b, 1, none⟩ v1) b #[v0, v1] 32 :=
  (h.set 0 v0 #[v0, x1] rfl).set 1 v1 #[v0, v1] rfl
theorem but_set2 (W : World) (b : Nat) (v0 v1 : Value) (k : Nat) (hk : k ≠ b) : ((W.setCell ⟨b, 0, none⟩ v0).setCell ⟨b, 1, none⟩ v1).heap[k]? = W.heap[k]? :=
  (Go.Deep.blk_setCell_other _ _ _ _ hk).trans (Go.Deep.blk_setCell_other _ _ _ _ hk)
/-- all of a copy, put together -/
theorem copied_mk {w W : World} {b2 h rm qc um uc : Nat} {p : Pd} {qA uA : Option Addr} {qs : List Rd} (hp : PAt w p) (hrm : p.rm = rm) (hum : p.um = um) (hb : Below w.heap.size w W) (hb2 : w.heap.size ≤ b2) (hbh : b2 < h)
    (hq : OwnQ W (b2 + 1) (.slice qA rm qc) qs) (hqh : ∀ ad, qA = some ad → ad.block < h) (hro : ros qs = ros p.rs) (hown : ∀ r ∈ qs, OwnI W h (.slice r.sA r.sm r.sc) r.st) (hu : OwnI W h (.slice uA um uc) p.us) (v0 v1 : Value) :
    CopiedP w ((W.setCell ⟨b2, 0, none⟩ v0).setCell ⟨b2, 1, none⟩ v1) p ⟨qA, rm, qc, qs, uA, um, uc, p.us⟩ := by
  have hbk : ∀ k, k ≠ b2 → ((W.setCell ⟨b2, 0, none⟩ v0).setCell ⟨b2, 1, none⟩ v1).heap[k]? = W.heap[k]? := fun k hk => but_set2 W b2 v0 v1 k hk
  have hq2 : OwnQ ((W.setCell ⟨b2, 0, none⟩ v0).setCell ⟨b2, 1, none⟩ v1) (b2 + 1) (.slice qA rm qc) qs := hq.put fun k hk _ => hbk k (by omega)
  have ho2 : ∀ r ∈ qs, OwnI ((W.setCell ⟨b2, 0, none⟩ v0).setCell ⟨b2, 1, none⟩ v1) h (.slice r.sA r.sm r.sc) r.st := fun r hr => (hown r hr).put fun k hk _ => hbk k (by omega)
  have hu2 : OwnI ((W.setCell ⟨b2, 0, none⟩ v0).setCell ⟨b2, 1, none⟩ v1) h (.slice uA um uc) p.us := hu.put fun k hk _ => hbk k (by omega)
  refine ⟨below_set2 hb _ hb2 _ _, ⟨hq2.len.1, ?_, hq2.len.2.2.1, ?_, ?_, hu2.len.1, ?_, hu2.len.2.2⟩, hro, rfl, hum.symm, hrm.symm, ⟨h, by omega, hq2.mono (by omega), hqh, ho2⟩, hu2.mono (by omega)⟩
  · show rm ≤ 1000
    rw [← hrm]; exact hp.r2
  · intro r hr
    refine ⟨(ho2 r hr).len.1, ?_, (ho2 r hr).len.2.2⟩
    rw [← (ho2 r hr).len.1]
    obtain ⟨k, hk⟩ := List.getElem?_of_mem hr
    have h1 := ros_at hk
    rw [hro] at h1
    unfold ros at h1
    rw [List.getElem?_map] at h1
    cases hpk : p.rs[k]? with
    | none => rw [hpk] at h1; cases h1
    | some r' =>
      rw [hpk] at h1
      have h2 : r'.ro = r.ro := Option.some.inj h1
      have h3 := hp.ra r' (List.mem_of_getElem? hpk)
      have h4 : r'.st = r.st := by injection h2
      rw [← h4, h3.sl]
      exact h3.s2
  · show (Pl.stops (ros qs)).length ≤ 10000
    rw [hro]; exact hp.tot
  · show um ≤ 1000
    rw [← hum]; exact hp.u2

set_option maxHeartbeats 8000000 in
theorem copy_b (p : Pd) (w : World) (hp : PAt w p) :
    Calls Tryz.prog 17 #[.agg #[.slice p.rA p.rm p.rc, .slice p.uA p.um p.uc]] w (CopyPost w p) := by
  have HP := Lib.hid hp
  have HX : Hid (PX ((w.alloc (.cells #[.slice p.rA p.rm p.rc, .slice p.uA p.um p.uc] 32)).alloc (.cells #[.slice none 0 0, .slice none 0 0] 32)) w.heap.size p) := (PX.new hp).below (below_alloc _ _)
  have HB0 : Hid (Below w.heap.size w ((w.alloc (.cells #[.slice p.rA p.rm p.rc, .slice p.uA p.um p.uc] 32)).alloc (.cells #[.slice none 0 0, .slice none 0 0] 32))) := below_more (below_alloc _ _) _
  have HT : Hid (Box ((w.alloc (.cells #[.slice p.rA p.rm p.rc, .slice p.uA p.um p.uc] 32)).alloc (.cells #[.slice none 0 0, .slice none 0 0] 32)) (w.heap.size + 1) #[.slice none 0 0, .slice none 0 0] 32) := by
    have e : w.heap.size + 1 = (w.alloc (.cells #[.slice p.rA p.rm p.rc, .slice p.uA p.um p.uc] 32)).heap.size := by simp
    rw [e]
    exact Box.new _ _ _
  have HG : Hid (w.heap.size ≤ w.heap.size + 1) := by unfold Hid; omega
  have HVS : Hid (((w.alloc (.cells #[.slice p.rA p.rm p.rc, .slice p.uA p.um p.uc] 32)).alloc (.cells #[.slice none 0 0, .slice none 0 0] 32)).heap.size = w.heap.size + 1 + 1) := by unfold Hid; simp
  have hrm := hp.r2
  clear hp
  go_enter Tryz.func17, Tryz.ntmps17
  have y0 := HX.out.c0
  go_wp2_with fail
  clear y0
  generalize ((w.alloc (.cells #[.slice p.rA p.rm p.rc, .slice p.uA p.um p.uc] 32)).alloc (.cells #[.slice none 0 0, .slice none 0 0] 32)) = V at *
  generalize w.heap.size + 1 = b2 at *
  generalize hb1 : w.heap.size = b1 at HX ⊢
  clear hb1
  have HC := Lib.hid (clone_r p.rA p.rm p.rc p.rs V HX.out.at_.rl (by omega) HX.out.at_.rows)
  with_reducible refine HC.out.mono ?_
  rintro e V1 ⟨qA, qc, rfl, h1⟩
  have HX1 := Lib.hid (HX.out.below h1.out.2)
  have HT1 := Lib.hid (HT.out.below h1.out.2)
  have HB1 := Lib.hid (below_next HB0.out h1.out.2)
  have HQ1 := Lib.hid h1.out.1
  have HB1b' : Hid (Below V.heap.size V V1) := h1.out.2
  have HH : Hid (V.heap.size ≤ V1.heap.size) := h1.out.2.size
  obtain ⟨h, hh⟩ : ∃ h, V1.heap.size = h := ⟨_, rfl⟩
  have HHE := Lib.hid hh
  have HQA : Hid (∀ ad, qA = some ad → V.heap.size ≤ ad.block ∧ ad.block < h ∧ ad.off = 0 ∧ ad.spot = none) := by rw [← hh]; exact h1.out.1.len.2.2.2
  have y0 := HX1.out.c0
  clear HC HB0 h1 hh
  go_wp2_with fail
  clear y0
  go_loopg [12] p.rm (fun gk s12 W => ∃ (k : Nat) (qs : List Rd) (W0 : World), W0 = W ∧ k + gk = p.rm ∧ s12 = .int .i64 k ∧ Hid (Below V1.heap.size V1 W0 ∨ True) ∧ Hid (Below V.heap.size V1 W0) ∧ Hid (OwnQ W0 V.heap.size (.slice qA p.rm qc) qs) ∧ Hid (ros qs = ros p.rs) ∧ Hid (∀ (j : Nat) (r : Rd), j < k → qs[j]? = some r → OwnI W0 h (.slice r.sA r.sm r.sc) r.st))
  case atStart => exact ⟨0, p.rs, _, rfl, by omega, rfl, .inr trivial, Below.refl _ _, HQ1.out, rfl, fun j r hj => by omega⟩
  case round =>
    obtain ⟨k, qs, W0, rfl, hkg, rfl, _, HK, HQ, HRO, HOW⟩ := hrel
    have HBW : Hid (Below w.heap.size w W0) := HB1.out.trans (HK.out.mono (by rw [HVS.out]; have := HG.out; omega))
    by_cases hlt : k < p.rm
    · obtain ⟨gk, rfl⟩ : ∃ j, gk = j + 1 := ⟨gk - 1, by omega⟩
      obtain ⟨r, hr⟩ := mlist_at p.rs k (by rw [HP.out.rl]; exact hlt)
      obtain ⟨r', hr'⟩ := mlist_at qs k (by rw [HQ.out.len.1]; exact hlt)
      have HR' := Lib.hid hr'
      have HRE : Hid (r'.tr = r.tr ∧ r'.ro = r.ro) := by
        have h1 := ros_at hr'
        rw [HRO.out, ros_at hr] at h1
        have h2 := Option.some.inj h1
        exact ⟨by injection h2 with h2 _; exact h2.symm, h2.symm⟩
      obtain ⟨qd, hqd, _⟩ := HQ.out.len.2.2.1 k r' hr'
      obtain ⟨⟨G, go, gs⟩, hqd'⟩ : ∃ x : Addr, x = qd := ⟨qd, rfl⟩
      rw [← hqd'] at hqd
      obtain ⟨hG1, hG2, hG3, hG4⟩ := HQA.out _ hqd
      simp only at hG1 hG2 hG3 hG4
      subst hG3 hG4
      have HQAE := Lib.hid hqd
      have HG1 := Lib.hid hG1
      have HG2 := Lib.hid hG2
      obtain ⟨ad, hrA, hc, hra⟩ := (HP.out.below HBW.out).at_ hr
      obtain ⟨c0, c1⟩ := hc
      have i2 : (k : Int) < (p.rm : Int) := by omega
      have HR := Lib.hid hr
      have HRAT := Lib.hid (hra.below (below_alloc W0 (.cells #[.int .i64 r.tr, .slice r.sA r.sm r.sc] 49)))
      have HC := Lib.hid (clone_i r.sA r.sm r.sc r.st (W0.alloc (.cells #[.int .i64 r.tr, .slice r.sA r.sm r.sc] 49)) HRAT.out.sl (by have := HRAT.out.s2; omega) HRAT.out.st)
      have HRA := Lib.hid hrA
      clear hr hrA hra hr' hqd hqd' hG1 hG2
      generalize p.rA = rA at *
      obtain rfl := HRA.out
      go_wp2_with fail
      with_reducible refine HC.out.mono ?_
      rintro e w2 ⟨A2, c2, rfl, h2⟩
      clear c0 c1 HC
      have HB2 : Hid (Below V.heap.size V1 w2) := (Below.alloc HK.out (Nat.le_trans HH.out HK.out.size) (.cells #[.int .i64 r.tr, .slice r.sA r.sm r.sc] 49)).trans (h2.out.2.mono (Nat.le_trans HH.out (Nat.le_trans HK.out.size (below_alloc W0 _).size)))
      have HQ2 := Lib.hid ((HQ.out.below (below_alloc W0 (.cells #[.int .i64 r.tr, .slice r.sA r.sm r.sc] 49))).below h2.out.2)
      have HI2 : Hid (OwnI w2 h (.slice A2 r.sm c2) r.st) := h2.out.1.mono (by rw [← HHE.out]; exact Nat.le_trans HK.out.size (below_alloc W0 _).size)
      have HOW2 : Hid (∀ (j : Nat) (s : Rd), j < k → qs[j]? = some s → OwnI w2 h (.slice s.sA s.sm s.sc) s.st) := fun j s hj hr => ((HOW.out j s hj hr).below (below_alloc W0 (.cells #[.int .i64 r.tr, .slice r.sA r.sm r.sc] 49))).below h2.out.2
      clear h2 HQ HK HOW
      generalize qA = qA' at *
      obtain rfl := HQAE.out
      have z0 : ∃ z, w2.cell? ⟨G, k * 2 + 1, none⟩ = some z := by
        obtain ⟨qd, e, _, z⟩ := HQ2.out.len.2.2.1 k r' HR'.out
        obtain rfl := Option.some.inj e
        rw [add_two, add_flat, Nat.zero_add] at z
        exact ⟨_, z⟩
      obtain ⟨z, z0⟩ := z0
      have z1 := HQ2.out.fz (k * 2 + 1)
      have HQ3 := Lib.hid (HQ2.out.set HR'.out A2 r.sm c2 r.st)
      have HRO3 : Hid (ros (qs.set k ⟨r'.tr, A2, r.sm, c2, r.st⟩) = ros p.rs) := by
        rw [← HRO.out]
        unfold ros
        rw [List.map_set]
        have e : Rd.ro ⟨r'.tr, A2, r.sm, c2, r.st⟩ = r'.ro := by rw [HRE.out.2]; show Pl.Ro.mk r'.tr r.st = Pl.Ro.mk r.tr r.st; rw [HRE.out.1]
        rw [e]
        apply List.ext_getElem?
        intro i
        rw [List.getElem?_set]
        split
        · rename_i e
          subst e
          split
          · rw [List.getElem?_map, HR'.out]; rfl
          · rename_i h
            rw [List.length_map] at h
            exact absurd (List.getElem?_eq_some_iff.1 HR'.out).1 h
        · rfl
      have HOW3 : Hid (∀ (j : Nat) (s : Rd), j < k + 1 → (qs.set k ⟨r'.tr, A2, r.sm, c2, r.st⟩)[j]? = some s → OwnI (w2.setCell ⟨G, k * 2 + 1, none⟩ (.slice A2 r.sm c2)) h (.slice s.sA s.sm s.sc) s.st) := fun j s hj hs => by
        have hput : ∀ v l, OwnI w2 h v l → OwnI (w2.setCell ⟨G, k * 2 + 1, none⟩ (.slice A2 r.sm c2)) h v l := fun v l ho => ho.put fun i hi _ => Go.Deep.blk_setCell_other _ _ _ _ (by show i ≠ G; have := HG2.out; omega)
        rw [List.getElem?_set] at hs
        by_cases e : k = j
        · subst e
          rw [if_pos rfl, if_pos (List.getElem?_eq_some_iff.1 HR'.out).1] at hs
          obtain rfl := Option.some.inj hs
          exact hput _ _ HI2.out
        · rw [if_neg e] at hs
          exact hput _ _ (HOW2.out j s (by omega) hs)
      go_wp2_with fail
      go_roundg gk
      case measure => omega
      case rel => exact ⟨k + 1, _, _, rfl, by omega, by first | rfl | go_num, .inr trivial, HB2.out.setCell (p := ⟨G, k * 2 + 1, none⟩) HG1.out _, HQ3.out, HRO3.out, HOW3.out⟩
    · have hk : k = p.rm := by omega
      have HB1b : Hid (Below V.heap.size V W0) := HB1b'.out.trans HK.out
      have HX0 := Lib.hid (HX.out.below HB1b.out)
      have HT0 := Lib.hid (HT.out.below HB1b.out)
      have y1 := HX0.out.c1
      have HC := Lib.hid (clone_i p.uA p.um p.uc p.us W0 HX0.out.at_.ul (by have := HX0.out.at_.u2; omega) HX0.out.at_.us)
      clear hlt
      go_wp2_with fail
      clear y1
      with_reducible refine HC.out.mono ?_
      rintro e w2 ⟨A2, c2, rfl, h2⟩
      have HT2 := Lib.hid (HT0.out.below h2.out.2)
      have z0 := HT2.out.cell 0 _ rfl
      have z1 := HT2.out.cell 1 _ rfl
      have g0 := HT2.out.fz 0
      have g1 := HT2.out.fz 1
      have HFIN := Lib.hid (copied_mk (h := h) HP.out rfl rfl (below_next HBW.out h2.out.2) HG.out (by rw [← HHE.out]; exact Nat.lt_of_lt_of_le HT.out.lt HH.out) (by rw [← HVS.out]; exact HQ.out.below h2.out.2) (fun ad e => (HQA.out ad e).2.1) HRO.out (fun r hr => by
        obtain ⟨j, hj⟩ := List.getElem?_of_mem hr
        exact (HOW.out j r (by have := (List.getElem?_eq_some_iff.1 hj).1; rw [HQ.out.len.1] at this; omega) hj).below h2.out.2) (h2.out.1.mono (by rw [← HHE.out]; exact HK.out.size)) (.slice qA p.rm qc) (.slice A2 p.um c2))
      go_wp2
      exact bodyPost_ret (results_plan rfl _ (plan_set HT2.out _ _) rfl rfl) rfl ⟨_, rfl, HFIN.out⟩
end Go.Proofs.YtgjmlnpfkmpfgaaGreat
