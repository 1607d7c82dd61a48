/- A range over a function whose body never leaves early: a law that lets the iterator say, of the world that it leaves, what it handed over; the records of a half, gone through so. -/
import Derived.Test.YtoocifoglhhnmaaLogChoose
import Derived.RangeFuncNested
import Derived.RangeFuncBound
import Derived.RangeFuncCalls
import Derived.RangeFuncLeaves
import Derived.RangeFuncBox
import Derived.Shelf.Abstract
import Derived.Shelf.RegionOpen
import Derived.OwnWalkIn
import Derived.TacticsInMore
import Derived.LoopNIn
import Derived.LoopIn
namespace Go.Proofs.Ytoocifoglhhnmaa
open Go.RowKit Go.Shelf
set_option linter.unusedVariables false
attribute [local go_sem] Oper.semAt_some

/-- what the body of a round does: it goes on, keeps what is no cells, and what the iterator asks -/
def GoesOn {α : Type} (Kp : World → World → Prop) (I : List α → World → Prop) (xs : List α) (W : World) : Exit → Act → World → Prop
  | .normal, _, W' => KeepsOthers W W' ∧ Kp W W' ∧ I xs W'
  | _, _, _ => False

theorem range_law {P : Program} {α : Type} {g : Operand} {ps : Array Tmp} {assign body : Code} {Q : Exit → Act → World → Prop} {a : Act} {w : World} {gf : Nat} {lv : Array Value}
    (hg : a.eval g = .func (.func gf) #[] lv) (eg : ∀ args w, (callFunc gf args).run P w = .ok (.enter gf args) w)
    (encs : α → Array Value) (hps : ∀ x, (encs x).size = ps.size) (Kp : World → World → Prop) (hKt : ∀ {A B C : World}, Kp A B → Kp B C → Kp A C)
    (hKb : ∀ (W : World) (l : Nat) (o o' : Obj), W.heap[l]? = some o → o.isCells = false → Kp W (W.putObj l o'))
    (I S : List α → World → Prop) (hI : OwnFrom w.heap.size I) (hS : OwnFrom w.heap.size S) (h0 : I [] w)
    {N : Nat} (hseq : ∀ (l : Nat) (J : List α → World → Prop) (W : World), Below w.heap.size w W → AbidesFrom W.heap.size J →
      (∀ pre x W1, J pre W1 → pre.length < N → YieldAt Fence.wide 0 P l (encs x) W1 fun e W' => e = .returned (.bool true) ∧ J (pre ++ [x]) W' ∧ Kp W1 W') → J [] W →
      CallsIn Fence.wide 0 P gf (#[.func (.yield l) #[] #[]] ++ lv) W fun e W' => (∃ v, e = .returned v) ∧ ∃ xs, S xs W' ∧ J xs W')
    (upd : α → Array Value → Array Value) (hassign : ∀ (l : Nat) (x : α) (W : World) (K : Act → World → Prop), K { tmps := upd x a.tmps, defers := [] } W →
      assign.wpIn (Fence.wide.inRound l) 0 P (Exit.then K (fun _ _ _ => False)) { tmps := (ps.zip (encs x)).foldl (fun t (p, v) => t.setIfInBounds p v) a.tmps, defers := [] } W)
    (hbody : ∀ (l : Nat) (pre : List α) (x : α) (W : World), I pre W → pre.length < N → body.wpIn (Fence.wide.inRound l) 0 P (GoesOn Kp I (pre ++ [x]) W) { tmps := upd x a.tmps, defers := [] } W)
    (hdone : ∀ (D : Nat) (xs : List α) (W : World), w.heap.size ≤ D → S xs W → I xs W → W.heap[D]? = some (.deferred (some [])) → Q .normal { a with defers := { target := .collected D, args := #[] } :: a.defers } W) :
    (Code.rangeFunc g ps assign body).wp P Q a w := by
  refine (wpIn_wide (n := 0)).1 (wpIn_rangeFunc fun fn hfn => ?_)
  have key : ∀ (r : LoopState → Loop), (r = fun st => { state := st, pending := none, fn := fn, tmps := a.tmps, params := ps, assign := assign, body := body, defers := w.heap.size }) →
      ∀ W1, (w.alloc (.deferred (some []))).alloc (.loop (r .ready)) = W1 →
      CallsIn Fence.wide 0 P gf (#[.func (.yield (w.heap.size + 1)) #[] #[]] ++ lv) W1 (rangePost Fence.wide 0 P (w.heap.size + 1) Q { a with defers := [{ target := .collected w.heap.size, args := #[] }] ++ a.defers }) := by
    intro r hr W1 hW1
    have hs1 : W1.heap.size = w.heap.size + 2 := by rw [← hW1]; simp
    have hl1 : W1.heap[w.heap.size + 1]? = some (.loop (r .ready)) := by
      rw [← hW1]
      have := World.alloc_heap_new (w.alloc (.deferred (some []))) (.loop (r .ready))
      rwa [World.size_alloc] at this
    have hd1 : W1.heap[w.heap.size]? = some (.deferred (some [])) := by
      rw [← hW1, Below.heap_alloc _ _ _ (by simp)]
      exact World.alloc_heap_new w _
    have hb1 : Below w.heap.size w W1 := by rw [← hW1]; exact ((Below.refl _ w).alloc (Nat.le_refl _) _).alloc (by simp) _
    refine (hseq (w.heap.size + 1) (fun pre W => I pre W ∧ W.heap[w.heap.size + 1]? = some (.loop (r .ready)) ∧ W.heap[w.heap.size]? = some (.deferred (some []))) W1 hb1 ?_ ?_ ⟨by rw [← hW1]; exact hI.alloc _ (hI.alloc _ h0), hl1, hd1⟩).mono ?_
    · rintro pre A B row ⟨hi, hl, hd⟩ hgr hrow
      refine ⟨hI pre A B row hi hgr (fun q e => ?_), (hgr.block _ (Array.getElem?_eq_some_iff.1 hl).1 (fun e => ?_)).trans hl, (hgr.block _ (Array.getElem?_eq_some_iff.1 hd).1 (fun e => ?_)).trans hd⟩
      · obtain ⟨h1, o, ho, hw⟩ := hrow q e
        exact ⟨by omega, o, ho, Obj.not_cells_of_walk hw⟩
      · have := (hrow _ e.symm).1
        omega
      · have := (hrow _ e.symm).1
        omega
    · rintro pre x W ⟨hi, hl, hd⟩ hN
      have hlt : w.heap.size + 1 < W.heap.size := (Array.getElem?_eq_some_iff.1 hl).1
      have hy := run_yield (P := P) (args := encs x) hl (by rw [hr]; exact hps x)
      rw [hr] at hy
      refine ⟨fn, _, assign, body, hy, roundIn_of_wpIn hfn (hassign _ x W _ ⟨_, run_beginRound hl (by rw [hr]), ?_⟩)⟩
      have hl2 : (W.putObj (w.heap.size + 1) (.loop { r .ready with state := .busy })).heap[w.heap.size + 1]? = some (.loop { r .ready with state := .busy }) := World.putObj_heap_same hlt
      have hd2 : (W.putObj (w.heap.size + 1) (.loop { r .ready with state := .busy })).heap[w.heap.size]? = some (.deferred (some [])) := (World.putObj_heap_other (by omega)).trans hd
      have hk2 : Kp W (W.putObj (w.heap.size + 1) (.loop { r .ready with state := .busy })) := hKb _ _ _ _ hl rfl
      refine wpIn_mono (hbody _ pre x _ (hI.putObj _ hi (by omega) hl rfl) hN) ?_
      rintro e a3 W3 hp
      cases e with
      | normal =>
        obtain ⟨hko, hkp, hi3⟩ := hp
        have hl3 := hko.same _ _ hl2 rfl
        have hd3 := hko.same _ _ hd2 rfl
        have he := run_endRound (P := P) none hl3
        have hr3 : ({ ({ r .ready with state := .busy } : Loop) with state := if (none : Option Code).isNone = true then .ready else .done, pending := none } : Loop) = r .ready := by rw [hr]; rfl
        rw [hr3] at he
        exact ⟨_, _, he, rfl, ⟨hI.putObj _ hi3 (by omega) hl3 rfl, World.putObj_heap_same (Array.getElem?_eq_some_iff.1 hl3).1, (World.putObj_heap_other (by omega)).trans hd3⟩, hKt (hKt hk2 hkp) (hKb _ _ _ _ hl3 rfl)⟩
      | ret => exact hp.elim
      | exit id => exact hp.elim
      | goto t => exact hp.elim
      | panic ch => exact hp.elim
      | outgrown => exact hp.elim
    · rintro e W2 ⟨⟨v, rfl⟩, xs, hs, hi, hl, hd⟩
      have he := run_endLoop (P := P) hl (by rw [hr]; simp)
      have hp : (r .ready).pending = none := by rw [hr]
      rw [hp] at he
      exact ⟨none, _, he, hdone _ xs _ (Nat.le_refl _) (hS.putObj _ hs (by omega) hl rfl) (hI.putObj _ hi (by omega) hl rfl) ((World.putObj_heap_other (by omega)).trans hd)⟩
  obtain ⟨W1, hW1⟩ : ∃ W1, (w.alloc (.deferred (some []))).alloc (.loop { state := .ready, pending := none, fn := fn, tmps := a.tmps, params := ps, assign := assign, body := body, defers := w.heap.size }) = W1 := ⟨_, rfl⟩
  refine ⟨w.heap.size + 1, [{ target := .collected w.heap.size, args := #[] }], W1, { target := .fn (.func gf) lv, args := #[.func (.yield (w.heap.size + 1)) #[] #[]] }, W1, gf,
    #[.func (.yield (w.heap.size + 1)) #[] #[]] ++ lv, W1, ?_, ?_, fun _ _ => trivial, ?_, fun h => by simp [Fence.wide] at h, ?_⟩
  · rw [← hW1]; exact run_enterLoop_outer _ _ _ _ _
  · simp only [resolve, hg]
    simp [go_sem]
  · simp [invoke, go_sem, eg]
  · have := key (fun st => { state := st, pending := none, fn := fn, tmps := a.tmps, params := ps, assign := assign, body := body, defers := w.heap.size }) rfl W1 hW1
    exact this

/-- what the iterator hands over: the sector behind a record, where its bytes lie, its bytes -/
abbrev Rx := Nat × Nat × Dk.Bs
def encR (x : Rx) : Array Value := #[.int .i64 (x.1 : Int), .slice (some ⟨x.2.1, 0, none⟩) x.2.2.length x.2.2.length]
def lastEnd (xs : List Rx) : Nat := (xs.getLast?.map (fun x => x.1)).getD 1
theorem lastEnd_nil : lastEnd [] = 1 := rfl
theorem lastEnd_snoc (pre : List Rx) (x : Rx) : lastEnd (pre ++ [x]) = x.1 := by unfold lastEnd; rw [List.getLast?_append]; simp

/-- what a round keeps: all cells but the log's own and rows of slices -/
def KpL (lb : Nat) (W W' : World) : Prop := W.heap.size ≤ W'.heap.size ∧ ∀ (i : Nat) (cs : Array Value) (t : TypeId) (fr : Nat × Nat), i ≠ lb → t ≠ 38 → W.heap[i]? = some (.cells cs t fr) → W'.heap[i]? = some (.cells cs t fr)
theorem KpL.trans {lb : Nat} {A B C : World} (h : KpL lb A B) (k : KpL lb B C) : KpL lb A C := ⟨Nat.le_trans h.1 k.1, fun i cs t fr h1 h2 h3 => k.2 i cs t fr h1 h2 (h.2 i cs t fr h1 h2 h3)⟩
theorem KpL.below {lb : Nat} {A B : World} (h : Below A.heap.size A B) : KpL lb A B := ⟨h.size, fun i cs t fr _ _ h3 => (h.block i (Array.getElem?_eq_some_iff.1 h3).1).trans h3⟩
theorem KpL.put (lb : Nat) (W : World) (l : Nat) (o o' : Obj) (h : W.heap[l]? = some o) (hc : o.isCells = false) : KpL lb W (W.putObj l o') :=
  ⟨by simp, fun i cs t fr _ _ h3 => (World.putObj_heap_other (fun e => by subst e; rw [h] at h3; obtain rfl := Option.some.inj h3; simp [Obj.isCells] at hc)).trans h3⟩

structure Seen (lb g s n st size gg b1 b2 w0 : Nat) (d : Dk.D) (pre : List Rx) (W : World) : Prop where
  disk : DiskAt W g s n d
  box1 : BoxAt W b1 g st size
  box2 : W.heap[b2]? = some (.cells #[.int .i64 (gg : Int)] 3 (0, 0))
  ng : ¬ Two g s lb
  n1 : b1 ≠ lb
  n2 : b2 ≠ lb
  hw : w0 ≤ W.heap.size
  blk : ∀ x ∈ pre, Blk W x.2.1 x.2.2 ∧ w0 ≤ x.2.1 ∧ x.2.1 ≠ lb
theorem Seen.kp {lb g s n st size gg b1 b2 w0 : Nat} {d : Dk.D} {pre : List Rx} {W W' : World} (h : Seen lb g s n st size gg b1 b2 w0 d pre W) (hk : KpL lb W W') : Seen lb g s n st size gg b1 b2 w0 d pre W' :=
  ⟨⟨hk.2 _ _ _ _ (fun e => h.ng (.inl e.symm)) (by decide) h.disk.top, hk.2 _ _ _ _ (fun e => h.ng (.inr e.symm)) (by decide) h.disk.row, h.disk.good, h.disk.n0, h.disk.n1⟩, hk.2 _ _ _ _ h.n1 (by decide) h.box1, hk.2 _ _ _ _ h.n2 (by decide) h.box2, h.ng, h.n1, h.n2, Nat.le_trans h.hw hk.1,
    fun x hx => ⟨hk.2 _ _ _ _ (h.blk x hx).2.2 (by decide) (h.blk x hx).1, (h.blk x hx).2⟩⟩
theorem Seen.more {lb g s n st size gg b1 b2 w0 : Nat} {d : Dk.D} {pre : List Rx} {W : World} (h : Seen lb g s n st size gg b1 b2 w0 d pre W) (x : Rx) (hx : Blk W x.2.1 x.2.2 ∧ w0 ≤ x.2.1 ∧ x.2.1 ≠ lb) : Seen lb g s n st size gg b1 b2 w0 d (pre ++ [x]) W :=
  ⟨h.disk, h.box1, h.box2, h.ng, h.n1, h.n2, h.hw, fun y hy => by
    simp only [List.mem_append, List.mem_singleton] at hy
    rcases hy with hy | rfl
    · exact h.blk y hy
    · exact hx⟩

def ScanIs (d : Dk.D) (st size gg : Nat) (pre : List Rx) (f : Nat) : Prop :=
  Lg.scan d.b st size gg size 1 0 = (pre.map (fun x => x.2.2) ++ (Lg.scan d.b st size gg f (lastEnd pre) pre.length).1, (Lg.scan d.b st size gg f (lastEnd pre) pre.length).2)
theorem scan_stop {d : Dk.D} {st size gg : Nat} {pre : List Rx} {f : Nat} (h : ScanIs d st size gg pre (f + 1)) (hr : Lg.recAt d.b st size gg (lastEnd pre) pre.length = none) : pre.map (fun x => x.2.2) = (Lg.scan d.b st size gg size 1 0).1 ∧ lastEnd pre = (Lg.scan d.b st size gg size 1 0).2 := by
  unfold ScanIs at h
  rw [h]
  unfold Lg.scan
  rw [hr]
  simp
theorem scan_go {d : Dk.D} {st size gg : Nat} {pre : List Rx} {f p : Nat} {r : Dk.Bs} (h : ScanIs d st size gg pre (f + 1)) (hr : Lg.recAt d.b st size gg (lastEnd pre) pre.length = some r) : ScanIs d st size gg (pre ++ [(lastEnd pre + Lg.secs r.length, p, r)]) f := by
  unfold ScanIs at h ⊢
  rw [h, lastEnd_snoc]
  conv => lhs; unfold Lg.scan
  rw [hr]
  simp

set_option maxRecDepth 100000 in
set_option maxHeartbeats 4000000 in
theorem iter_any (lb g s n st size gg b1 b2 w0 : Nat) (d : Dk.D) (l : Nat) (J : List Rx → World → Prop) (W : World) (hs : st + size ≤ n) (h1 : 1 ≤ size) (hgg : gg < 4294967296) (hSe : Seen lb g s n st size gg b1 b2 w0 d [] W) (hlb : lb < w0) (hJ : AbidesFrom W.heap.size J)
    (hY : ∀ pre x W1, J pre W1 → pre.length < size → YieldAt Fence.wide 0 Try.prog l (encR x) W1 fun e W' => e = .returned (.bool true) ∧ J (pre ++ [x]) W' ∧ KpL lb W1 W') (h0 : J [] W) :
    CallsIn Fence.wide 0 Try.prog 62 #[.func (.yield l) #[] #[], .pointer (some ⟨b1, 0, none⟩), .pointer (some ⟨b2, 0, none⟩)] W fun e W' => (∃ v, e = .returned v) ∧ ∃ xs : List Rx, (xs.map (fun x => x.2.2) = (Lg.scan d.b st size gg size 1 0).1 ∧ lastEnd xs = (Lg.scan d.b st size gg size 1 0).2 ∧ Seen lb g s n st size gg b1 b2 w0 d xs W') ∧ J xs W' := by
  have hn1 := hSe.disk.n1
  have HSE := Lib.hid hSe
  have HJ := Lib.hid hJ
  have HY := Lib.hid hY
  have H0 := Lib.hid h0
  have HWW : Hid (∀ pre wr w1, J pre wr → Below wr.heap.size wr w1 → J pre w1) := fun pre wr w1 hj hb => hJ pre wr w1 none hj ⟨hb.os, hb.tape, hb.output, hb.size, fun k hk _ => hb.block k hk⟩ (fun r e => by cases e)
  clear hSe hJ hY h0
  refine callsIn_of_wp Try.func62 rfl trivial ?_ rfl
  simp only [Try.ntmps62, List.size_toArray, List.length_cons, List.length_nil, Nat.reduceAdd, Nat.reduceSub, Array.replicate_succ, Array.replicate_zero, List.push_toArray, List.append_toArray, List.nil_append, List.cons_append]
  gi_wp2
  gi_loopw [4, 5] (fun s4 s5 wr => ∃ (pre : List Rx) (e k f : Nat), e ≤ size ∧ 1 + k ≤ e ∧ size + 1 ≤ f + e ∧ Hid (e = lastEnd pre ∧ k = pre.length) ∧ s4 = .int .i64 (e : Int) ∧ s5 = .int .i64 (k : Int) ∧ Hid (ScanIs d st size gg pre f) ∧ Hid (Seen lb g s n st size gg b1 b2 w0 d pre wr) ∧ Hid (J pre wr))
    (fun s4 s5 wr => size + 1 - (intOf s4).toNat)
  case atStart =>
    exact ⟨[], 1, 0, size, h1, by omega, by omega, ⟨rfl, rfl⟩, rfl, rfl, by unfold Hid ScanIs; simp [lastEnd_nil], HSE.out, H0.out⟩
  case round =>
    clear HSE H0
    obtain ⟨pre, e, k, f, he1, he2, hf, HPE, rfl, rfl, HSC, HSE, HJP⟩ := hrel
    obtain ⟨f, rfl⟩ : ∃ q, f = q + 1 := ⟨f - 1, by omega⟩
    have x0 := HSE.out.box1.c0
    have x1 := HSE.out.box1.c1
    have x2 := HSE.out.box1.c2
    have x3 : wr.cell? ⟨b2, 0, none⟩ = some (.int .i64 (gg : Int)) := by rw [cell_of_row wr b2 0 _ _ _ HSE.out.box2]; rfl
    have HRC := record_any g s n st size e gg k d wr HSE.out.disk hs he1 hgg (by omega)
    cases hrec : Lg.recAt d.b st size gg e k with
    | none =>
      rw [hrec] at HRC
      have HRN : Hid (Calls Try.prog 63 #[.agg #[.pointer (some ⟨g, 0, none⟩), .int .i64 st, .int .i64 size], .int .i64 e, .int .i64 gg, .int .i64 k] wr fun en w' => ∃ v, en = .returned (.tuple #[v, .bool false]) ∧ Hid (Below wr.heap.size wr w')) := HRC.mono fun en w' hp => by
        rcases hp with ⟨r, p, e1, _⟩ | ⟨_, v, e1, e2⟩
        · cases e1
        · exact ⟨v, e1, e2⟩
      have HST : Hid (pre.map (fun x => x.2.2) = (Lg.scan d.b st size gg size 1 0).1 ∧ lastEnd pre = (Lg.scan d.b st size gg size 1 0).2) := scan_stop HSC.out (by rw [← HPE.out.1, ← HPE.out.2]; exact hrec)
      clear HRC hrec HSC
      gi_wp2
      refine ⟨trivial, rfl, (callsIn_wide.2 HRN.out).mono ?_⟩
      rintro en w1 ⟨v, rfl, hb1⟩
      gi_wp2
      refine bodyPost_ret (results_none rfl _ _ _) rfl ?_
      exact ⟨⟨_, rfl⟩, pre, ⟨HST.out.1, HST.out.2, HSE.out.kp (KpL.below hb1.out)⟩, HWW.out _ _ _ HJP.out hb1.out⟩
    | some r =>
      obtain ⟨hr200, hre⟩ := Lg.recAt_some HSE.out.disk.good.len hs hrec
      have HGO : Hid (∀ p, ScanIs d st size gg (pre ++ [(e + Lg.secs r.length, p, r)]) f) := fun p => by
        have := scan_go (p := p) HSC.out (by rw [← HPE.out.1, ← HPE.out.2]; exact hrec)
        rw [← HPE.out.1] at this
        exact this
      have hq1 := Lg.secs_pos r.length
      have hq7 := Lg.secs_le r.length hr200
      have HSQ : Hid (∀ W : World, Calls Try.prog 42 #[.int .i64 (r.length : Int)] W fun e w' => e = .returned (.int .i64 (Lg.secs r.length : Nat)) ∧ W = w') := fun W => sectorsOf_any r.length W (by omega)
      rw [hrec] at HRC
      have HRN : Hid (Calls Try.prog 63 #[.agg #[.pointer (some ⟨g, 0, none⟩), .int .i64 st, .int .i64 size], .int .i64 e, .int .i64 gg, .int .i64 k] wr fun en w' => ∃ p, en = .returned (.tuple #[.slice (some ⟨p, 0, none⟩) r.length r.length, .bool true]) ∧
          Hid (YieldAt Fence.wide 0 Try.prog l (encR (e + Lg.secs r.length, p, r)) w' fun e' W' => e' = .returned (.bool true) ∧ J (pre ++ [(e + Lg.secs r.length, p, r)]) W' ∧ KpL lb w' W') ∧ Hid (Seen lb g s n st size gg b1 b2 w0 d (pre ++ [(e + Lg.secs r.length, p, r)]) w')) := HRC.mono fun en w' hp => by
        rcases hp with ⟨r', p, e1, e2, e3, e4, e5⟩ | ⟨e1, _⟩
        · obtain rfl := Option.some.inj e1
          refine ⟨p, e2, HY.out pre _ w' (HWW.out _ _ _ HJP.out e5) (by have := HPE.out.2; omega), (HSE.out.kp (KpL.below e5)).more _ ⟨e4, Nat.le_trans HSE.out.hw e3, ?_⟩⟩
          have := HSE.out.hw
          show p ≠ lb
          omega
        · cases e1
      have HPL : Hid (∀ p : Nat, e + Lg.secs r.length = lastEnd (pre ++ [(e + Lg.secs r.length, p, r)]) ∧ k + 1 = (pre ++ [(e + Lg.secs r.length, p, r)]).length) := fun p => ⟨by rw [lastEnd_snoc], by rw [List.length_append, ← HPE.out.2]; rfl⟩
      clear HRC hrec HSC HJP HPE
      generalize hq : Lg.secs r.length = q at *
      clear hq
      generalize hrl : r.length = rl at *
      gi_wp2
      refine ⟨trivial, rfl, (callsIn_wide.2 HRN.out).mono ?_⟩
      rintro en w1 ⟨p, rfl, hy1, hs1⟩
      gi_wp2
      refine ⟨trivial, rfl, (callsIn_wide.2 (HSQ.out _)).mono ?_⟩
      rintro en w' ⟨rfl, rfl⟩
      obtain ⟨fn, tmps, assign, body, hy, hR⟩ := hy1.out
      unfold encR at hy
      dsimp only at hy
      rw [hrl, show ((e + q : Nat) : Int) = (e : Int) + (q : Int) by omega] at hy
      have HR := Lib.hid hR
      clear hR hy1
      gi_wp2
      refine ⟨rfl, HR.out.mono ?_⟩
      rintro en W3 ⟨rfl, hJ3, hk3⟩
      have HJ3 := Lib.hid hJ3
      have HS3 := Lib.hid (hs1.out.kp hk3)
      have HPp := Lib.hid (HPL.out p)
      have HGp := Lib.hid (HGO.out p)
      clear hJ3 hk3 hs1 HPL HGO hy
      gi_wp2
      go_roundw
      case rel => exact ⟨pre ++ [(e + q, p, r)], e + q, k + 1, f, by omega, by omega, by omega, HPp.out, by first | rfl | go_num, by first | rfl | go_num, HGp.out, HS3.out, HJ3.out⟩
      case measure => simp [intOf]; omega

set_option maxHeartbeats 400000 in
theorem recordsF_any (g st size gg : Nat) (w : World) :
    Calls Try.prog 32 #[.agg #[.pointer (some ⟨g, 0, none⟩), .int .i64 st, .int .i64 size], .int .i64 gg] w fun e w' => e = .returned (.func (.func 62) #[] #[.pointer (some ⟨w.heap.size, 0, none⟩), .pointer (some ⟨w.heap.size + 1, 0, none⟩)]) ∧
      w' = (w.alloc (.cells #[.pointer (some ⟨g, 0, none⟩), .int .i64 st, .int .i64 size] 65)).alloc (.cells #[.int .i64 gg] 3) := by
  go_enter Try.func32, Try.ntmps32
  go_wp2
  go_ret
  exact ⟨rfl, rfl⟩

end Go.Proofs.Ytoocifoglhhnmaa
