/- Texts joined: Iterators that hand over a list that is known ahead: what a function that ranges over one may rely on, and a law for such a range, whose body may leave early. Loops that range over iterators, round after round: the marks that they leave among a function's deferred calls; a loop whose rounds add to them; the ways out of an iterator. A region that draws its order, and whose last operations, in the text's order, come behind all others: the others are walked as in a region of their own, outside a round or within one; the last ones may call a yield. -/
import Derived.Test.YtgjmlnpfkmpfgaaGreatMems
import Derived.RangeFuncNested
import Derived.RangeFuncBound
import Derived.RangeFuncCalls
import Derived.RangeFuncLeaves
import Derived.RangeFuncBox
import Derived.Shelf.Abstract
import Derived.Shelf.RegionOpen
import Derived.OwnWalkIn
import Derived.TacticsInMore
import Derived.LoopNIn
import Derived.LoopIn
import Derived.Deep.RegionHeld3
import Derived.StillTail
import Derived.StillTailTactics
section
/-! Iterators that hand over a list that is known ahead: what a function that ranges over one may rely on, and a law for such a range, whose body may leave early. The one that ranges owns a box, and the row of the slice that lies in it: nothing else that lay there turns. -/
namespace Go.Proofs.YtgjmlnpfkmpfgaaGreat
open Go.RowKit Go.Shelf
set_option linter.unusedVariables false

/-- the blocks of the one that ranges -/
def Mn (sb : Nat) (W : World) (i : Nat) : Prop := i = sb ∨ ∃ ad n c, W.cell? ⟨sb, 0, none⟩ = some (.slice (some ad) n c) ∧ i = ad.block
def MnOk (sb : Nat) (W : World) : Prop := ∀ i, Mn sb W i → ∃ cs t fr, W.heap[i]? = some (.cells cs t fr)
structure KM (sb : Nat) (W W' : World) : Prop where
  os : W'.os = W.os
  tape : W'.tape = W.tape
  output : W'.output = W.output
  size : W.heap.size ≤ W'.heap.size
  mn : ∀ i, i < W.heap.size → Mn sb W' i → Mn sb W i
  keep : ∀ i o, ¬ Mn sb W i → W.heap[i]? = some o → W'.heap[i]? = some o

theorem lt_some {w : World} {i : Nat} {o : Obj} (h : w.heap[i]? = some o) : i < w.heap.size := (Array.getElem?_eq_some_iff.1 h).1
theorem MnOk.sb {sb : Nat} {W : World} (h : MnOk sb W) : ∃ cs t fr, W.heap[sb]? = some (.cells cs t fr) := h sb (.inl rfl)
theorem MnOk.lt {sb : Nat} {W : World} (h : MnOk sb W) {i : Nat} (hi : Mn sb W i) : i < W.heap.size := by
  obtain ⟨_, _, _, e⟩ := h i hi
  exact lt_some e
theorem MnOk.not {sb : Nat} {W : World} (h : MnOk sb W) {i : Nat} {o : Obj} (ho : W.heap[i]? = some o) (hc : o.isCells = false) : ¬ Mn sb W i := fun hm => by
  obtain ⟨_, _, _, e⟩ := h i hm
  rw [ho] at e
  obtain rfl := Option.some.inj e
  simp [Obj.isCells] at hc
theorem MnOk.new {sb : Nat} {W : World} (h : MnOk sb W) {i : Nat} (hi : W.heap.size ≤ i) : ¬ Mn sb W i := fun hm => by
  have := h.lt hm
  omega
theorem Mn.congr {sb : Nat} {W W' : World} (h : W'.heap[sb]? = W.heap[sb]?) {i : Nat} : Mn sb W' i ↔ Mn sb W i := by
  unfold Mn World.cell?
  simp only [h]
theorem MnOk.below {sb : Nat} {W W' : World} (h : MnOk sb W) (hb : Below W.heap.size W W') : MnOk sb W' := fun i hi => by
  have hs := h.lt (.inl rfl)
  have hm := (Mn.congr (hb.block sb hs)).1 hi
  obtain ⟨cs, t, fr, e⟩ := h i hm
  exact ⟨cs, t, fr, (hb.block i (lt_some e)).trans e⟩
theorem KM.refl (sb : Nat) (W : World) : KM sb W W := ⟨rfl, rfl, rfl, Nat.le_refl _, fun _ _ h => h, fun _ _ _ h => h⟩
theorem KM.trans {sb : Nat} {A B C : World} (h : KM sb A B) (k : KM sb B C) : KM sb A C :=
  ⟨k.os.trans h.os, k.tape.trans h.tape, k.output.trans h.output, Nat.le_trans h.size k.size, fun i hi hm => h.mn i hi (k.mn i (Nat.lt_of_lt_of_le hi h.size) hm),
    fun i o hn ho => k.keep i o (fun hm => hn (h.mn i (lt_some ho) hm)) (h.keep i o hn ho)⟩
theorem KM.below {sb : Nat} {W W' : World} (h : MnOk sb W) (hb : Below W.heap.size W W') : KM sb W W' :=
  ⟨hb.os, hb.tape, hb.output, hb.size, fun i hi hm => (Mn.congr (hb.block sb (h.lt (.inl rfl)))).1 hm, fun i o _ ho => (hb.block i (lt_some ho)).trans ho⟩
theorem MnOk.put {sb : Nat} {W : World} (h : MnOk sb W) {l : Nat} {o : Obj} (hl : W.heap[l]? = some o) (hc : o.isCells = false) (o' : Obj) : MnOk sb (W.putObj l o') := fun i hi => by
  have hn : ∀ j, Mn sb W j → j ≠ l := fun j hj e => h.not hl hc (e ▸ hj)
  have hm := (Mn.congr (World.putObj_heap_other (hn sb (.inl rfl)))).1 hi
  obtain ⟨cs, t, fr, e⟩ := h i hm
  exact ⟨cs, t, fr, (World.putObj_heap_other (hn i hm)).trans e⟩
/-- a block that is younger than w, and is no cells, turns -/
theorem KM.put {sb : Nat} {w W : World} (h : KM sb w W) (hk : MnOk sb W) {l : Nat} {o : Obj} (hl : W.heap[l]? = some o) (hc : o.isCells = false) (hw : w.heap.size ≤ l) (o' : Obj) : KM sb w (W.putObj l o') := by
  have hn : sb ≠ l := fun e => hk.not hl hc (.inl e.symm)
  refine ⟨h.os, h.tape, h.output, by simpa using h.size, fun i hi hm => h.mn i hi ((Mn.congr (World.putObj_heap_other hn)).1 hm), fun i o2 hm ho => ?_⟩
  have := lt_some ho
  exact (World.putObj_heap_other (by omega)).trans (h.keep i o2 hm ho)
/-- a block that is no cells turns there and back -/
theorem KM.back {sb : Nat} {W W3 : World} (hk : MnOk sb W) {l : Nat} {o o2 : Obj} (hl : W.heap[l]? = some o) (hc : o.isCells = false) (hc2 : o2.isCells = false) (hk3 : MnOk sb W3) (h : KM sb (W.putObj l o2) W3) : KM sb W (W3.putObj l o) := by
  have hlt := lt_some hl
  have hl2 : (W.putObj l o2).heap[l]? = some o2 := World.putObj_heap_same hlt
  have hk2 := hk.put hl hc o2
  have hl3 := h.keep l o2 (hk2.not hl2 hc2) hl2
  have hn : sb ≠ l := fun e => hk.not hl hc (.inl e.symm)
  have hcg : ∀ i, Mn sb (W.putObj l o2) i ↔ Mn sb W i := fun i => Mn.congr (World.putObj_heap_other hn)
  refine ⟨h.os, h.tape, h.output, by have := h.size; simpa using this, fun i hi hm => (hcg i).1 (h.mn i (by simpa using hi) ((Mn.congr (World.putObj_heap_other hn)).1 hm)), fun i o4 hm ho => ?_⟩
  by_cases hil : i = l
  · subst hil
    rw [hl] at ho
    obtain rfl := Option.some.inj ho
    exact World.putObj_heap_same (lt_some hl3)
  · exact (World.putObj_heap_other hil).trans (h.keep i o4 (fun e => hm ((hcg i).1 e)) ((World.putObj_heap_other hil).trans ho))
theorem KM.from {sb : Nat} {W W' : World} (hk : MnOk sb W) (h : KM sb W W') (B : Nat) : KeepsFrom B W W' := ⟨h.size, fun k o _ ho hc => h.keep k o (hk.not ho hc) ho⟩
/-- what is no block of the one that ranges lies as it lay -/
theorem KM.cell {sb : Nat} {W W' : World} (h : KM sb W W') {p : Addr} {v : Value} (hn : ¬ Mn sb W p.block) (hc : W.cell? p = some v) : W'.cell? p = some v := by
  have hlt : p.block < W.heap.size := by
    unfold World.cell? at hc
    cases e : W.heap[p.block]? with
    | none => rw [e] at hc; simp at hc
    | some o => exact lt_some e
  unfold World.cell? at hc ⊢
  rw [h.keep _ _ hn (Array.getElem?_eq_getElem hlt), ← Array.getElem?_eq_getElem hlt]
  exact hc
theorem KM.not {sb : Nat} {W W' : World} (h : KM sb W W') {i : Nat} (hi : i < W.heap.size) (hn : ¬ Mn sb W i) : ¬ Mn sb W' i := fun hm => hn (h.mn i hi hm)

/-- an iterator that hands over the elements of a list, one by one, till it is told to stop -/
def Gives {β : Type} (sb : Nat) (P : Program) (gf : Nat) (lv : Array Value) (V : β → Value → World → Prop) (xs : List β) (w : World) : Prop :=
  ∀ (l : Nat) (J : Nat → World → Prop) (Jx : World → Prop) (W : World), KM sb w W → OwnFrom W.heap.size J → OwnFrom W.heap.size (fun (_ : Unit) => Jx) → (∀ k W1, J k W1 → MnOk sb W1) →
    (∀ k x v W1, xs[k]? = some x → J k W1 → KM sb W W1 → V x v W1 → YieldAt Fence.wide 0 P l #[v] W1 fun e W' =>
      (e = .returned (.bool true) ∧ J (k + 1) W' ∧ KM sb W1 W') ∨ (e = .returned (.bool false) ∧ Jx W' ∧ KeepsFrom W.heap.size W1 W')) →
    J 0 W →
    CallsIn Fence.wide 0 P gf (#[.func (.yield l) #[] #[]] ++ lv) W fun e W' => (∃ v, e = .returned v) ∧ ((J xs.length W' ∧ KM sb W W') ∨ Jx W')

/-- how a round may end -/
def BPost (B sb : Nat) (I : Nat → World → Prop) (Ix : Code → World → Prop) (k : Nat) (W : World) : Exit → Act → World → Prop
  | .normal, _, W' => KM sb W W' ∧ I k W'
  | .ret, _, W' => KeepsFrom B W W' ∧ Ix .ret W'
  | .exit id, _, W' => KeepsFrom B W W' ∧ Ix (.exit id) W'
  | .goto t, _, W' => KeepsFrom B W W' ∧ Ix (.goto t) W'
  | _, _, _ => False

theorem own_unit {B : Nat} {p : World → Prop} (h : OwnFrom B (fun (_ : Unit) => p)) {W W' : World} {row : Option Nat} (hs : p W) (hg : W.grownBy W' row) (hr : ∀ r, row = some r → B ≤ r ∧ ∃ o : Obj, W.heap[r]? = some o ∧ o.isCells = false) : p W' := h () W W' row hs hg hr
theorem own_below {β : Type} {B : Nat} {I : β → World → Prop} (h : OwnFrom B I) {s : β} {W W' : World} (hs : I s W) (hb : Below W.heap.size W W') : I s W' :=
  h s W W' none hs ⟨hb.os, hb.tape, hb.output, hb.size, fun k hk _ => hb.block k hk⟩ (fun r e => by cases e)

set_option maxHeartbeats 1000000 in
theorem range_it {P : Program} {β : Type} {sb : Nat} {g : Operand} {p0 : Tmp} {assign body : Code} {Q : Exit → Act → World → Prop} {a : Act} {w : World} {gf : Nat} {lv : Array Value}
    (hg : a.eval g = .func (.func gf) #[] lv) (eg : ∀ args w, (callFunc gf args).run P w = .ok (.enter gf args) w)
    {V : β → Value → World → Prop} (hV : ∀ x v, Own (fun (_ : Unit) W => V x v W)) {xs : List β} {w0 : World} (hG : Gives sb P gf lv V xs w0) (hw : KM sb w0 w)
    (I : Nat → World → Prop) (Ix : Code → World → Prop) (hI : OwnFrom w.heap.size I) (hIx : ∀ c, OwnFrom w.heap.size (fun (_ : Unit) => Ix c)) (hM : ∀ k W, I k W → MnOk sb W) (h0 : I 0 w)
    (Ax : Value → Act → World → Prop) (hAx : ∀ v a', OwnFrom w.heap.size (fun (_ : Unit) W => Ax v a' W))
    (hassign : ∀ (l k : Nat) (x : β) (v : Value) (W : World) (K : Act → World → Prop), xs[k]? = some x → I k W → V x v W → (∀ a' W', Below W.heap.size W W' → Ax v a' W' → V x v W' → K a' W') →
      assign.wpIn (Fence.wide.inRound l) 0 P (Exit.then K (fun _ _ _ => False)) { tmps := a.tmps.setIfInBounds p0 v, defers := [] } W)
    (hbody : ∀ (l k : Nat) (x : β) (v : Value) (a' : Act) (W : World), xs[k]? = some x → I k W → KM sb w W → V x v W → Ax v a' W → body.wpIn (Fence.wide.inRound l) 0 P (BPost w.heap.size sb I Ix (k + 1) W) a' W)
    (hdone : ∀ (D : Nat) (W : World), w.heap.size ≤ D → I xs.length W → KM sb w W → W.heap[D]? = some (.deferred (some [])) → Q .normal { a with defers := { target := .collected D, args := #[] } :: a.defers } W)
    (hstop : ∀ (D : Nat) (c : Code) (W : World), w.heap.size ≤ D → Ix c W → W.heap[D]? = some (.deferred (some [])) → c.wpIn Fence.wide 0 P Q { a with defers := { target := .collected D, args := #[] } :: a.defers } W) :
    (Code.rangeFunc g #[p0] assign body).wpIn Fence.wide 0 P Q a w := by
  refine wpIn_rangeFunc fun fn hfn => ?_
  have hk0 := hM 0 w h0
  obtain ⟨rec, hrec⟩ : ∃ rec : LoopState → Option Code → Loop, rec = fun st pe => { state := st, pending := pe, fn := fn, tmps := a.tmps, params := #[p0], assign := assign, body := body, defers := w.heap.size } := ⟨_, rfl⟩
  obtain ⟨W1, hW1⟩ : ∃ W1, (w.alloc (.deferred (some []))).alloc (.loop (rec .ready none)) = W1 := ⟨_, rfl⟩
  have hs1 : W1.heap.size = w.heap.size + 2 := by rw [← hW1]; simp
  have hl1 : W1.heap[w.heap.size + 1]? = some (.loop (rec .ready none)) := by
    rw [← hW1]
    have := World.alloc_heap_new (w.alloc (.deferred (some []))) (.loop (rec .ready none))
    rwa [World.size_alloc] at this
  have hd1 : W1.heap[w.heap.size]? = some (.deferred (some [])) := by
    rw [← hW1, Below.heap_alloc _ _ _ (by simp)]
    exact World.alloc_heap_new w _
  have hb1 : Below w.heap.size w W1 := by rw [← hW1]; exact ((Below.refl _ w).alloc (Nat.le_refl _) _).alloc (by simp) _
  have hkm1 : KM sb w W1 := KM.below hk0 hb1
  have hI1 : I 0 W1 := own_below hI h0 hb1
  refine ⟨w.heap.size + 1, [{ target := .collected w.heap.size, args := #[] }], W1, { target := .fn (.func gf) lv, args := #[.func (.yield (w.heap.size + 1)) #[] #[]] }, W1, gf,
    #[.func (.yield (w.heap.size + 1)) #[] #[]] ++ lv, W1, ?_, ?_, fun _ _ => trivial, ?_, fun h => by simp [Fence.wide] at h, ?_⟩
  · rw [← hW1, hrec]; exact run_enterLoop_outer _ _ _ _ _
  · simp only [resolve, hg]
    simp [go_sem]
  · simp [invoke, go_sem, eg]
  have hown : ∀ {A B : World} {row : Option Nat} (i : Nat) (o : Obj), A.heap[i]? = some o → A.grownBy B row → (∀ r, row = some r → W1.heap.size ≤ r ∧ ∃ o : Obj, A.heap[r]? = some o ∧ o.isCells = false) → i < W1.heap.size → B.heap[i]? = some o := fun i o ho hgr hr hi =>
    (hgr.block _ (lt_some ho) (fun e => by have := (hr _ e.symm).1; omega)).trans ho
  have hrow : ∀ {A : World} {row : Option Nat}, (∀ r, row = some r → W1.heap.size ≤ r ∧ ∃ o : Obj, A.heap[r]? = some o ∧ o.isCells = false) → (∀ r, row = some r → w.heap.size ≤ r ∧ ∃ o : Obj, A.heap[r]? = some o ∧ o.isCells = false) := fun hr r e => ⟨by have := (hr r e).1; omega, (hr r e).2⟩
  refine (hG (w.heap.size + 1)
    (fun k W => I k W ∧ W.heap[w.heap.size + 1]? = some (.loop (rec .ready none)) ∧ W.heap[w.heap.size]? = some (.deferred (some [])))
    (fun W => ∃ c, Ix c W ∧ W.heap[w.heap.size + 1]? = some (.loop (rec .done (some c))) ∧ W.heap[w.heap.size]? = some (.deferred (some [])))
    W1 (hw.trans hkm1) ?_ ?_ (fun k W h => hM k W h.1) ?_ ⟨hI1, hl1, hd1⟩).mono ?_
  · rintro k A B row ⟨hi, hl, hd⟩ hgr hr
    exact ⟨hI k A B row hi hgr (hrow hr), hown _ _ hl hgr hr (by omega), hown _ _ hd hgr hr (by omega)⟩
  · rintro k A B row ⟨c, hi, hl, hd⟩ hgr hr
    exact ⟨c, own_unit (hIx c) hi hgr (hrow hr), hown _ _ hl hgr hr (by omega), hown _ _ hd hgr hr (by omega)⟩
  · rintro k x v W hx ⟨hi, hl, hd⟩ hkw hv
    have hlt := lt_some hl
    have hk := hM k W hi
    have hy := run_yield (P := P) (args := #[v]) hl (by rw [hrec]; rfl)
    rw [hrec] at hy
    refine ⟨fn, _, assign, body, hy, roundIn_of_wpIn hfn ?_⟩
    have hz : ((#[p0] : Array Tmp).zip #[v]).foldl (fun t (p, v) => t.setIfInBounds p v) a.tmps = a.tmps.setIfInBounds p0 v := by simp [Array.zip]
    have := hassign (w.heap.size + 1) k x v W (fun a₁ w₁ => ∃ w₂, (Instr.beginRound (w.heap.size + 1)).run P w₁ = .ok () w₂ ∧ body.wpIn (Fence.wide.inRound (w.heap.size + 1)) 0 P (roundPost P (w.heap.size + 1) fun e W' =>
      (e = .returned (.bool true) ∧ (I (k + 1) W' ∧ W'.heap[w.heap.size + 1]? = some (.loop (rec .ready none)) ∧ W'.heap[w.heap.size]? = some (.deferred (some []))) ∧ KM sb W W') ∨
      (e = .returned (.bool false) ∧ (∃ c, Ix c W' ∧ W'.heap[w.heap.size + 1]? = some (.loop (rec .done (some c))) ∧ W'.heap[w.heap.size]? = some (.deferred (some []))) ∧ KeepsFrom W1.heap.size W W')) a₁ w₂) hx hi hv ?_
    · rw [hz]; exact this
    intro a' W2 hb hax hv2
    have hk2 := hk.below hb
    have hi2 := own_below hI hi hb
    have hl2 : W2.heap[w.heap.size + 1]? = some (.loop (rec .ready none)) := (hb.block _ hlt).trans hl
    have hd2 : W2.heap[w.heap.size]? = some (.deferred (some [])) := (hb.block _ (lt_some hd)).trans hd
    have hkm2 : KM sb w W2 := (hkm1.trans hkw).trans (KM.below hk hb)
    refine ⟨_, run_beginRound hl2 (by rw [hrec]), ?_⟩
    have hl3 : (W2.putObj (w.heap.size + 1) (.loop { rec .ready none with state := .busy })).heap[w.heap.size + 1]? = some (.loop { rec .ready none with state := .busy }) := World.putObj_heap_same (lt_some hl2)
    have hd3 : (W2.putObj (w.heap.size + 1) (.loop { rec .ready none with state := .busy })).heap[w.heap.size]? = some (.deferred (some [])) := (World.putObj_heap_other (by omega)).trans hd2
    have hk3 := hk2.put hl2 rfl (.loop { rec .ready none with state := .busy })
    refine wpIn_mono (hbody _ k x v a' _ hx (hI.putObj _ hi2 (by omega) hl2 rfl) (hkm2.put hk2 hl2 rfl (by omega) _) ((hV x v).from w.heap.size |>.putObj (s := ()) _ hv2 (by omega) hl2 rfl) ((hAx v a').putObj (s := ()) _ hax (by omega) hl2 rfl)) ?_
    have fin : ∀ (c : Code) (W3 : World), KeepsFrom w.heap.size (W2.putObj (w.heap.size + 1) (.loop { rec .ready none with state := .busy })) W3 → Ix c W3 →
        ∃ v w', (Instr.endRound (w.heap.size + 1) (some c)).run P W3 = .ok v w' ∧ ((Ending.returned v = .returned (.bool true) ∧ (I (k + 1) w' ∧ w'.heap[w.heap.size + 1]? = some (.loop (rec .ready none)) ∧ w'.heap[w.heap.size]? = some (.deferred (some []))) ∧ KM sb W w') ∨
          (Ending.returned v = .returned (.bool false) ∧ (∃ c, Ix c w' ∧ w'.heap[w.heap.size + 1]? = some (.loop (rec .done (some c))) ∧ w'.heap[w.heap.size]? = some (.deferred (some []))) ∧ KeepsFrom W1.heap.size W w')) := fun c W3 hkf hx3 => by
      have hl4 := hkf.same _ _ (by omega) hl3 rfl
      have hd4 := hkf.same _ _ (Nat.le_refl _) hd3 rfl
      have he := run_endRound (P := P) (some c) hl4
      rw [hrec] at he
      refine ⟨_, _, he, .inr ⟨rfl, ⟨c, (hIx c).putObj (s := ()) _ hx3 (by omega) hl4 rfl, ?_, (World.putObj_heap_other (by omega)).trans hd4⟩, ?_⟩⟩
      · rw [hrec]
        exact World.putObj_heap_same (lt_some hl4)
      · refine ⟨by have h1 := hb.size; have h2 := hkf.size; simp at h2 ⊢; omega, fun i o h1 h2 h3 => ?_⟩
        refine (World.putObj_heap_other (by omega)).trans (hkf.same i o (by omega) ((World.putObj_heap_other (by omega)).trans ((hb.block i (lt_some h2)).trans h2)) h3)
    rintro e a3 W3 hp
    cases e with
    | normal =>
      obtain ⟨hkp, hi3⟩ := hp
      have hk4 := hM _ _ hi3
      have hl4 := hkp.keep _ _ (hk3.not hl3 rfl) hl3
      have hd4 := hkp.keep _ _ (hk3.not hd3 rfl) hd3
      have he := run_endRound (P := P) none hl4
      have hr3 : ({ ({ rec .ready none with state := .busy } : Loop) with state := if (none : Option Code).isNone = true then .ready else .done, pending := none } : Loop) = rec .ready none := by rw [hrec]; rfl
      rw [hr3] at he
      exact ⟨_, _, he, .inl ⟨rfl, ⟨hI.putObj _ hi3 (by omega) hl4 rfl, World.putObj_heap_same (lt_some hl4), (World.putObj_heap_other (by omega)).trans hd4⟩, (KM.below hk hb).trans (KM.back hk2 hl2 rfl rfl hk4 hkp)⟩⟩
    | ret => exact fin _ _ hp.1 hp.2
    | exit id => exact fin _ _ hp.1 hp.2
    | goto t => exact fin _ _ hp.1 hp.2
    | panic ch => exact hp.elim
    | outgrown => exact hp.elim
  · rintro e W2 ⟨⟨v, rfl⟩, (⟨⟨hi, hl, hd⟩, hkm⟩ | ⟨c, hi, hl, hd⟩)⟩
    · have he := run_endLoop (P := P) hl (by rw [hrec]; simp)
      rw [hrec] at he
      exact ⟨none, _, he, hdone _ _ (Nat.le_refl _) (hI.putObj _ hi (by omega) hl rfl) ((hkm1.trans hkm).put (hM _ _ hi) hl rfl (by omega) _) ((World.putObj_heap_other (by omega)).trans hd)⟩
    · have he := run_endLoop (P := P) hl (by rw [hrec]; simp)
      rw [hrec] at he
      exact ⟨some c, _, he, hstop _ c _ (Nat.le_refl _) ((hIx c).putObj (s := ()) _ hi (by omega) hl rfl) ((World.putObj_heap_other (by omega)).trans hd)⟩

end Go.Proofs.YtgjmlnpfkmpfgaaGreat
end

section
/-! Loops that range over iterators, round after round: the marks that they leave among a function's deferred calls; a loop whose rounds add to them; the ways out of an iterator. -/
namespace Go.Proofs.YtgjmlnpfkmpfgaaGreat
open Go.RowKit Go.Shelf
set_option linter.unusedVariables false

/-- the marks that ranges have left, the last one first -/
structure Mks (B : Nat) (ds : List Deferred) (W : World) : Prop where
  nd : (ds.map fun d => d.target).Nodup
  at_ : ∀ d ∈ ds, ∃ D, d = { target := .collected D, args := #[] } ∧ B ≤ D ∧ W.heap[D]? = some (.deferred (some []))
theorem Mks.nil (B : Nat) (W : World) : Mks B [] W := ⟨List.nodup_nil, fun d h => by cases h⟩
theorem Mks.cons {B D : Nat} {ds : List Deferred} {W : World} (h : Mks B ds W) (hB : B ≤ D) (hn : ∀ d ∈ ds, ∀ D', d = { target := .collected D', args := #[] } → D' < D) (hD : W.heap[D]? = some (.deferred (some []))) : Mks B ({ target := .collected D, args := #[] } :: ds) W := by
  refine ⟨?_, fun d hd => ?_⟩
  · rw [List.map_cons, List.nodup_cons]
    refine ⟨fun hm => ?_, h.nd⟩
    obtain ⟨d, hd, e⟩ := List.mem_map.1 hm
    obtain ⟨D', rfl, _⟩ := h.at_ d hd
    have := hn _ hd D' rfl
    simp at e
    omega
  · rcases List.mem_cons.1 hd with rfl | hd
    · exact ⟨D, rfl, hB, hD⟩
    · exact h.at_ d hd
theorem Mks.keep {B : Nat} {ds : List Deferred} {W W' : World} (h : Mks B ds W) (hk : ∀ D, B ≤ D → W.heap[D]? = some (.deferred (some [])) → W'.heap[D]? = some (.deferred (some []))) : Mks B ds W' :=
  ⟨h.nd, fun d hd => by obtain ⟨D, e, h1, h2⟩ := h.at_ d hd; exact ⟨D, e, h1, hk D h1 h2⟩⟩
theorem Mks.km {B sb : Nat} {ds : List Deferred} {W W' : World} (h : Mks B ds W) (hk : MnOk sb W) (hm : KM sb W W') : Mks B ds W' := h.keep fun D _ h2 => hm.keep _ _ (hk.not h2 rfl) h2
theorem Mks.below {B : Nat} {ds : List Deferred} {W W' : World} (h : Mks B ds W) (hb : Below W.heap.size W W') : Mks B ds W' := h.keep fun D _ h2 => (hb.block D (lt_some h2)).trans h2
theorem Mks.kf {B : Nat} {ds : List Deferred} {W W' : World} (h : Mks B ds W) (hk : KeepsFrom B W W') : Mks B ds W' := h.keep fun D h1 h2 => hk.same _ _ h1 h2 rfl
theorem Mks.own (B C : Nat) (ds : List Deferred) (hC : ∀ d ∈ ds, ∀ D, d = { target := .collected D, args := #[] } → D < C) : OwnFrom C (fun (_ : Unit) W => Mks B ds W) := fun _ W W' row h hg hr =>
  ⟨h.nd, fun d hd => by
    obtain ⟨D, e, h1, h2⟩ := h.at_ d hd
    exact ⟨D, e, h1, (hg.block D (lt_some h2) (fun e' => by have := (hr D e'.symm).1; have := hC d hd D e; omega)).trans h2⟩⟩
theorem Mks.lt {B : Nat} {ds : List Deferred} {W : World} (h : Mks B ds W) : ∀ d ∈ ds, ∀ D, d = { target := .collected D, args := #[] } → D < W.heap.size := fun d hd D e => by
  obtain ⟨D', e', _, h2⟩ := h.at_ d hd
  rw [e] at e'
  injection e' with e1
  injection e1 with e2
  subst e2
  exact lt_some h2

/-- out of an iterator: its marks are taken off, one by one -/
theorem leaves_marks {P : Program} {fn : Func} {tmps : Array Value} {B : Nat} {I : World → Prop} (hI : OwnFrom B (fun (_ : Unit) => I)) {R : Ending → World → Prop} (h : ∀ W, I W → LeavesIn Fence.wide 0 P fn tmps R [] .returning W) :
    ∀ (ds : List Deferred) (W : World), Mks B ds W → I W → LeavesInM Fence.wide 0 P fn tmps R ds .returning W
  | [], W, _, hi => h W hi
  | d :: ds, W, hm, hi => by
    obtain ⟨D, rfl, h1, h2⟩ := hm.at_ d (by simp)
    refine ⟨by simp, .inl ⟨D, _, rfl, run_takeDeferred h2, ?_⟩⟩
    refine leaves_marks hI h ds _ ⟨(List.nodup_cons.1 hm.nd).2, fun e he => ?_⟩ (hI.putObj (s := ()) _ hi h1 h2 rfl)
    obtain ⟨D', rfl, h3, h4⟩ := hm.at_ e (by simp [he])
    refine ⟨D', rfl, h3, (World.putObj_heap_other fun e' => ?_).trans h4⟩
    subst e'
    exact (List.nodup_cons.1 hm.nd).1 (List.mem_map.2 ⟨_, he, rfl⟩)

/-! a loop whose rounds may leave marks: the relation speaks of one slot, of the deferred calls, of the world -/
/-- values laid into slots -/
def fillL : List Value → List Nat → List Value → List Value
  | b, n :: ns, v :: vs => fillL (b.set n v) ns vs
  | b, _, _ => b
def rdL (l : List Value) (n : Nat) : Value := (l[n]?).getD undef
def Alln : Nat → (List Value → Prop) → Prop
  | 0, p => p []
  | n + 1, p => ∀ v, Alln n fun l => p (v :: l)
theorem alln_of : ∀ (l : List Value) {p : List Value → Prop}, Alln l.length p → p l
  | [], _, h => h
  | v :: l, _, h => alln_of l (h v)
/-- the end of such a round -/
def RoundEnd (base : List Value) (s : Nat) (ns : List Nat) (rel : Value → List Deferred → World → Prop) (mu : Value → Nat) (v : Value) (a : Act) (w : World) : Prop :=
  (a.tmps.toList = fillL base (s :: ns) (rdL a.tmps.toList s :: ns.map (rdL a.tmps.toList)) ∧ rel (rdL a.tmps.toList s) a.defers w) ∧ mu (rdL a.tmps.toList s) < mu v
theorem RoundEnd.mk {base : List Value} {s : Nat} {ns : List Nat} {rel : Value → List Deferred → World → Prop} {mu : Value → Nat} {v u : Value} {l : List Value} {ds : List Deferred} {w : World}
    (h1 : l = fillL base (s :: ns) (rdL l s :: ns.map (rdL l))) (h2 : rdL l s = u) (h3 : rel u ds w) (h4 : mu u < mu v) : RoundEnd base s ns rel mu v ⟨l.toArray, ds⟩ w := by
  subst h2
  exact ⟨⟨h1, h3⟩, h4⟩
theorem wpIn_loop_fr {P : Program} {F : Fence} {n : Nat} {Q : Exit → Act → World → Prop} {c : Code} {a : Act} {w : World} {base : List Value} {ds0 : List Deferred} (s : Nat) (ns : List Nat) (rel : Value → List Deferred → World → Prop) (mu : Value → Nat)
    (ha : a = ⟨base.toArray, ds0⟩) (hb : base = fillL base (s :: ns) (rdL base s :: ns.map (rdL base))) (h0 : rel (rdL base s) ds0 w)
    (round : ∀ v, Alln ns.length fun vs => ∀ ds W, rel v ds W → c.wpIn F n P (Exit.then (RoundEnd base s ns rel mu v) Q) ⟨(fillL base (s :: ns) (v :: vs)).toArray, ds⟩ W) : (Code.loop c).wpIn F n P Q a w := by
  subst ha
  refine wpIn_loop (fun a W => a.tmps.toList = fillL base (s :: ns) (rdL a.tmps.toList s :: ns.map (rdL a.tmps.toList)) ∧ rel (rdL a.tmps.toList s) a.defers W) (fun a _ => mu (rdL a.tmps.toList s)) ⟨hb, h0⟩ ?_
  rintro ⟨tm, ds⟩ W ⟨h1, h2⟩
  have h := alln_of (ns.map (rdL tm.toList)) (p := fun vs => ∀ ds W, rel (rdL tm.toList s) ds W → c.wpIn F n P (Exit.then (RoundEnd base s ns rel mu (rdL tm.toList s)) Q) ⟨(fillL base (s :: ns) (rdL tm.toList s :: vs)).toArray, ds⟩ W) (by rw [List.length_map]; exact round (rdL tm.toList s)) ds W h2
  dsimp only at h1
  rw [← h1, Array.toArray_toList] at h
  exact h
end Go.Proofs.YtgjmlnpfkmpfgaaGreat
end

section
/-! A region that draws its order, and whose last operations, in the text's order, come behind all others: the others are walked as in a region of their own, outside a round or within one; the last ones may call a yield. -/
namespace Go.Proofs.YtgjmlnpfkmpfgaaGreat
open Go.RowKit Go.Shelf
set_option linter.unusedVariables false

section
variable {P : Program} {ops : Array Oper}

/-- a fence that lets all in, in a round or not -/
def Open (F : Fence) : Prop := F = Fence.wide ∨ ∃ l, F = Fence.wide.inRound l
theorem Open.fn {F : Fence} (h : Open F) (f : FuncId) : F.fn f := by rcases h with rfl | ⟨l, rfl⟩ <;> trivial
theorem Open.depth {F : Fence} (h : Open F) : F.depth.isSome = true → 1 ≤ 0 := by rcases h with rfl | ⟨l, rfl⟩ <;> intro e <;> simp [Fence.wide, Fence.inRound] at e
theorem Open.sem {F : Fence} (h : Open F) (o : Oper) (ρ : Operand → Value) (hnd : ∀ c, o.op ≠ .defer c) : o.semAt F.round ρ = execOp ρ o := Oper.semAt_eq _ _ _ hnd
theorem Open.calls {F : Fence} (h : Open F) {f : FuncId} {args : Array Value} {w : World} {R : Ending → World → Prop} (hc : Calls P f args w R) : CallsIn F 0 P f args w R := by
  rcases h with rfl | ⟨l, rfl⟩
  · exact callsIn_wide.2 hc
  · exact CallsIn.inRound l (callsIn_wide.2 hc)

/-- what the walk of the others says at its end -/
def HeadQ (K : Act → World → Prop) : Exit → Act → World → Prop
  | .normal, a, w => K a w
  | _, _, _ => False

theorem upon_open {F : Fence} (hF : Open F) {o : Oper} {a : Act} {K K' : Act → World → Prop} {H : Act → World → Prop} {Q : Exit → Act → World → Prop} (hK : ∀ a w, K a w → K' a w) {r : Result Next} (h : o.upon P a K (HeadQ H) r) : o.uponIn F 0 P a K' Q r := by
  cases r with
  | ok x w =>
    cases x with
    | value v => exact hK _ _ h
    | skip => exact hK _ _ h
    | defer d => exact hK _ _ h
    | enter f args =>
      refine ⟨hF.depth, hF.calls (Calls.mono h fun e w' he => ?_)⟩
      cases e with
      | returned v => exact hK _ _ he
      | panicked c => exact (he : False).elim
      | outgrown =>
        obtain ⟨_, _, he⟩ := (he : LetsOut (HeadQ H))
        exact (he : False).elim
    | row row args =>
      refine ⟨hF.depth, ?_⟩
      rcases hF with rfl | ⟨l, rfl⟩
      · intro c cs _
        obtain ⟨v, w', hr, hs⟩ := h c cs
        exact ⟨v, w', hK _ _ hr, stepsIn_wide.2 hs⟩
      · intro c cs _
        obtain ⟨v, w', hr, hs⟩ := h c cs
        exact ⟨v, w', hK _ _ hr, stepsIn_wide.2 hs⟩
    | _ => exact h.elim
  | halt x w =>
    cases x with
    | panic v => exact (h : False).elim
    | _ => exact h.elim

/-- the edges of the first n go back -/
def backB (ops : Array Oper) (n : Nat) : Bool := (List.range n).all fun i => match ops[i]? with
  | some o => o.after.all fun e => !Region.binds .any e || decide (e.on < i)
  | none => true
def plainB (ops : Array Oper) : Bool := ops.all fun o => o.guard.isNone && (match o.op with | .defer _ => false | _ => true)
def tailB (ops : Array Oper) (n : Nat) : Bool := backB ops n && plainB ops && decide (n ≤ ops.size) && (decide (n = ops.size) || Region.sinkB .any ops n && Region.chainB .any ops n) &&
  Region.seqB .any ops (ops.size - n) n ((Array.replicate n true) ++ Array.replicate (ops.size - n) false)

theorem plain_spec (h : plainB ops = true) {i : Nat} {o : Oper} (ho : ops[i]? = some o) : o.guard = none ∧ ∀ c, o.op ≠ .defer c := by
  have hm : o ∈ ops := Array.mem_of_getElem? ho
  have := Array.all_eq_true'.1 h o hm
  simp only [Bool.and_eq_true, Option.isNone_iff_eq_none] at this
  refine ⟨this.1, fun c e => ?_⟩
  have h2 := this.2
  rw [e] at h2
  cases h2
theorem back_spec {n : Nat} (h : backB ops n = true) {i : Nat} {o : Oper} (hi : i < n) (ho : ops[i]? = some o) : ∀ e ∈ o.after, Region.binds .any e = true → e.on < i := by
  have := List.all_eq_true.1 h i (List.mem_range.2 hi)
  rw [ho] at this
  simp only at this
  intro e he hb
  have := Array.all_eq_true'.1 this e he
  rw [hb] at this
  simpa using this

theorem wpAnyIn_of_seq {F : Fence} (hF : Open F) (hp : plainB ops = true) {Q : Exit → Act → World → Prop} : ∀ (l : List Oper) (k g : Nat) (listed : Array Bool) (a : Act) (w : World), (∀ j, l[j]? = ops[k + j]?) →
    Region.seqB .any ops l.length k listed = true → wpListIn F 0 P ops Q l a w → wpAnyIn F 0 P .any ops Q (l.length + g) listed a w
  | [], k, g, listed, a, w, _, hB, h => by
    have h0 : Region.ready .any ops listed = [] := by simpa [Region.seqB] using hB
    rw [List.length_nil, Nat.zero_add]
    cases g with
    | zero => exact ⟨h0, h⟩
    | succ g => exact ⟨fun _ => h, fun i hi => by rw [h0] at hi; cases hi⟩
  | o :: l, k, g, listed, a, w, hl, hB, h => by
    have h0 : ops[k]? = some o := by simpa using (hl 0).symm
    simp only [List.length_cons, Region.seqB, Bool.and_eq_true, decide_eq_true_eq] at hB
    rw [List.length_cons, show l.length + 1 + g = (l.length + g) + 1 by omega]
    refine ⟨fun h1 => (by rw [hB.1] at h1; cases h1), fun i hi => ?_⟩
    rw [hB.1] at hi
    have hik : i = k := by simpa using hi
    subst hik
    have hw : wpOpIn F 0 P ops Q i (wpListIn F 0 P ops Q l) a w := by unfold wpOpIn; simp only [h0]; exact h
    exact wpOpIn_mono (fun a' w' h' => wpAnyIn_of_seq hF hp l (i + 1) g _ a' w' (fun j => by have := hl (j + 1); simpa [Nat.add_assoc, Nat.add_comm 1 j] using this) hB.2 h') hw

theorem head_any {F : Fence} (hF : Open F) {n : Nat} (hB : tailB ops n = true) {Q : Exit → Act → World → Prop} {H : Array Oper} (hH : H = (ops.toList.take n).toArray) :
    ∀ (f : Nat) (listed lh : Array Bool) (a : Act) (w : World), HeadInv .any ops n listed → lh.size = n → (∀ i, i < n → listed[i]? = lh[i]?) → (∀ i, n ≤ i → i < ops.size → listed[i]? = some false) →
      wpAny P .any H (HeadQ fun a w => wpListIn F 0 P ops Q (ops.toList.drop n) a w) f lh a w → wpAnyIn F 0 P .any ops Q (f + (ops.size - n)) listed a w := by
  unfold tailB at hB
  simp only [Bool.and_eq_true, decide_eq_true_eq, Bool.or_eq_true] at hB
  obtain ⟨⟨⟨⟨hback, hplain⟩, hn⟩, htail⟩, hseq⟩ := hB
  have hget : ∀ i, i < n → H[i]? = ops[i]? := fun i hi => by rw [hH]; simp [hi]
  have hsz : H.size = n := by rw [hH]; simp; omega
  have hout : ∀ i, n ≤ i → H[i]? = none := fun i hi => Array.getElem?_eq_none (by omega)
  have hgd : ∀ (d : Bool) (listed lh : Array Bool) (i : Nat), (∀ i, i < n → listed[i]? = lh[i]?) → i < n → listed.getD i d = lh.getD i d := fun d listed lh i h hi => by
    simp only [Array.getD_eq_getD_getElem?, h i hi]
  have hrd : ∀ (listed lh : Array Bool), (∀ i, i < n → listed[i]? = lh[i]?) → ∀ i, i < n → (i ∈ Region.ready .any ops listed ↔ i ∈ Region.ready .any H lh) := fun listed lh h i hi => by
    rw [mem_ready, mem_ready, hget i hi, hgd true listed lh i h hi]
    constructor
    · rintro ⟨h1, o, ho, h2⟩
      exact ⟨h1, o, ho, fun e he hb => by rw [← hgd false listed lh e.on h (by have := back_spec hback hi ho e he hb; omega)]; exact h2 e he hb⟩
    · rintro ⟨h1, o, ho, h2⟩
      exact ⟨h1, o, ho, fun e he hb => by rw [hgd false listed lh e.on h (by have := back_spec hback hi ho e he hb; omega)]; exact h2 e he hb⟩
  have hrlt : ∀ (lh : Array Bool) i, i ∈ Region.ready .any H lh → i < n := fun lh i h => by
    obtain ⟨_, o, ho, _⟩ := mem_ready.1 h
    rcases Nat.lt_or_ge i n with h2 | h2
    · exact h2
    · rw [hout i h2] at ho; cases ho
  -- nothing is left of the others: all of them have come
  have hall : ∀ (lh : Array Bool), lh.size = n → Region.ready .any H lh = [] → ∀ i, i < n → lh[i]? = some true := fun lh hs hr => by
    intro i
    induction i using Nat.strongRecOn with
    | _ i ih =>
      intro hi
      have hb : lh[i]? = some lh[i] := Array.getElem?_eq_getElem (by omega)
      cases hx : lh[i] with
      | true => rw [hb, hx]
      | false =>
        exfalso
        have ho : H[i]? = some H[i] := Array.getElem?_eq_getElem (by omega)
        have hm : i ∈ Region.ready .any H lh := mem_ready.2 ⟨by rw [Array.getD_eq_getD_getElem?, hb, hx]; rfl, _, ho, fun e he hbn => by
          have hlt := back_spec hback hi (by rw [← hget i hi]; exact ho) e he hbn
          rw [Array.getD_eq_getD_getElem?, ih e.on hlt (by omega)]; rfl⟩
        rw [hr] at hm
        cases hm
  have hend : ∀ (g : Nat) (listed lh : Array Bool) (a : Act) (w : World), listed.size = ops.size → lh.size = n → (∀ i, i < n → listed[i]? = lh[i]?) → (∀ i, n ≤ i → i < ops.size → listed[i]? = some false) → Region.ready .any H lh = [] → wpListIn F 0 P ops Q (ops.toList.drop n) a w → wpAnyIn F 0 P .any ops Q (g + (ops.size - n)) listed a w := by
    intro g listed lh a w hls hs h1 h2 hr h
    have e : listed = (Array.replicate n true) ++ Array.replicate (ops.size - n) false := by
      apply Array.ext_getElem?
      intro i
      rcases Nat.lt_or_ge i n with hi | hi
      · rw [h1 i hi, hall lh hs hr i hi, Array.getElem?_append_left (by simpa using hi)]
        simp [hi]
      · rw [Array.getElem?_append_right (by simpa using hi)]
        rcases Nat.lt_or_ge i ops.size with h3 | h3
        · rw [h2 i hi h3, Array.getElem?_replicate, Array.size_replicate, if_pos (by omega)]
        · rw [Array.getElem?_eq_none (show listed.size ≤ i by omega), Array.getElem?_replicate, Array.size_replicate, if_neg (by omega)]
    rw [e]
    have := wpAnyIn_of_seq hF hplain (ops.toList.drop n) n g ((Array.replicate n true) ++ Array.replicate (ops.size - n) false) a w (fun j => by simp [List.getElem?_drop]) (by simpa using hseq) h
    rw [show (ops.toList.drop n).length + g = g + (ops.size - n) by simp; omega] at this
    exact this
  intro f
  induction f with
  | zero =>
    intro listed lh a w inv hs h1 h2 h
    exact hend 0 listed lh a w inv.size hs h1 h2 h.1 h.2
  | succ f ih =>
    intro listed lh a w inv hs h1 h2 h
    by_cases hr : Region.ready .any H lh = []
    · exact hend (f + 1) listed lh a w inv.size hs h1 h2 hr (h.1 hr)
    · obtain ⟨i0, hi0⟩ := List.exists_mem_of_ne_nil _ hr
      have hi0n := hrlt lh i0 hi0
      have hun : listed.getD i0 true = false := by rw [hgd true listed lh i0 h1 hi0n]; exact (mem_ready.1 hi0).1
      rw [show f + 1 + (ops.size - n) = (f + (ops.size - n)) + 1 by omega]
      have hin : ∀ j ∈ Region.ready .any ops listed, j < n := fun j hj => by
        rcases Nat.lt_or_ge j n with h3 | h3
        · exact h3
        · exfalso
          rcases htail with h4 | ⟨h4, h5⟩
          · obtain ⟨_, o, ho, _⟩ := mem_ready.1 hj
            have := (Array.getElem?_eq_some_iff.1 ho).1
            omega
          · rcases Nat.lt_or_ge n ops.size with h6 | h6
            · exact tail_waits h4 h5 h6 inv _ i0 rfl hi0n hun j h3 hj
            · obtain ⟨_, o, ho, _⟩ := mem_ready.1 hj
              have := (Array.getElem?_eq_some_iff.1 ho).1
              omega
      refine ⟨fun h3 => ?_, fun j hj => ?_⟩
      · have := (hrd listed lh h1 i0 hi0n).2 hi0
        rw [h3] at this
        cases this
      · have hjn := hin j hj
        have hjh := (hrd listed lh h1 j hjn).1 hj
        have hop := h.2 j hjh
        obtain ⟨_, o, ho, _⟩ := mem_ready.1 hj
        obtain ⟨hg, hnd⟩ := plain_spec hplain ho
        unfold wpOp at hop
        rw [hget j hjn, ho] at hop
        unfold wpOpIn
        rw [ho]
        simp only [Region.wanted, hg, if_true] at hop ⊢
        rcases hop with hop | ⟨_, _, _, hl⟩
        · refine ⟨fun f _ => hF.fn f, ?_⟩
          rw [hF.sem o _ hnd]
          refine upon_open hF (fun a' w' hk => ?_) hop
          refine ih (listed.setIfInBounds j true) (lh.setIfInBounds j true) a' w' (inv.set hj hjn) (by simpa using hs) (fun i hi => ?_) (fun i hi hi2 => ?_) hk
          · by_cases hij : j = i
            · subst hij
              rw [Array.getElem?_setIfInBounds, Array.getElem?_setIfInBounds]
              have h7 := inv.size
              simp only [if_true]
              rw [if_pos (by omega), if_pos (by omega)]
            · rw [Array.getElem?_setIfInBounds_ne hij, Array.getElem?_setIfInBounds_ne hij]; exact h1 i hi
          · rw [Array.getElem?_setIfInBounds_ne (by omega)]; exact h2 i hi hi2
        · exact (hl : False).elim

theorem region_tail {F : Fence} (hF : Open F) {id : Nat} {a : Act} {w : World} {L : List Oper} {Q : Exit → Act → World → Prop} (n : Nat) (hm : P.follows .mixedOrders = true) (hB : tailB L.toArray n = true)
    (h : wpAny P .any (L.take n).toArray (HeadQ fun a w => wpListIn F 0 P L.toArray Q (L.drop n) a w) n (Array.replicate n false) a w.drew) : (Code.region id L.toArray true).wpIn F 0 P Q a w := by
  refine wpIn_region_any hm ?_
  have hB' := hB
  unfold tailB at hB'
  simp only [Bool.and_eq_true, decide_eq_true_eq] at hB'
  have hn : n ≤ L.toArray.size := hB'.1.1.2
  have := head_any (P := P) (ops := L.toArray) hF hB (Q := Q) (H := (L.take n).toArray) (by simp) n (Array.replicate L.toArray.size false) (Array.replicate n false) a w.drew
    ⟨by simp, fun j oj _ hl => (by rw [getD_replicate_false] at hl; cases hl), fun t _ ht => getD_in (by simpa using ht) (getD_replicate_false _ _)⟩ (by simp) (fun i hi => by rw [Array.getElem?_replicate, Array.getElem?_replicate, if_pos (by omega), if_pos hi]) (fun i _ hi => by rw [Array.getElem?_replicate, if_pos hi]) (by simpa using h)
  rw [show n + (L.toArray.size - n) = L.toArray.size by omega] at this
  exact this
theorem head_start {md : Region.Mode} {Q : Exit → Act → World → Prop} {S : World → Prop} {n : Nat} {listed : Array Bool} {a : Act} {w : World} (hS : S w) (h : S w → wpAnyH P md ops Q S n listed a w) : wpAny P md ops Q n listed a w := wpAny_of_held _ _ _ _ (h hS)
end

end Go.Proofs.YtgjmlnpfkmpfgaaGreat
end
