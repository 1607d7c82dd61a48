/- Package better: the first move that is better, among so many. -/
import Derived.Test.YtgjmlnpfkmpfgaaGreatBetPlm
import Derived.Test.YtgjmlnpfkmpfgaaGreatPlanD
namespace Bt
section
variable {α : Type}
/-- the first of so many that is better, and how many were tried -/
def fbS (b : α → Bool) : Nat → List α → Option α × Nat
  | 0, _ => (none, 0)
  | _ + 1, [] => (none, 0)
  | n + 1, q :: l => if b q = true then (some q, 1) else ((fbS b n l).1, (fbS b n l).2 + 1)
variable {b : α → Bool}
theorem fb_zero (l : List α) : fbS b 0 l = (none, 0) := by unfold fbS; rfl
theorem fb_nil (n : Nat) : fbS b n [] = (none, 0) := by cases n <;> rfl
theorem fb_yes {n : Nat} {q : α} {l : List α} (h : b q = true) : fbS b (n + 1) (q :: l) = (some q, 1) := by rw [fbS, if_pos h]
theorem fb_no {n : Nat} {q : α} {l : List α} (h : b q = false) : fbS b (n + 1) (q :: l) = ((fbS b n l).1, (fbS b n l).2 + 1) := by rw [fbS, if_neg (by rw [h]; simp)]
/-- as far as it has come -/
def FbAt (b : α → Bool) (n : Nat) (xs : List α) (k : Nat) : Prop := ∃ m, k + m = n ∧ fbS b n xs = ((fbS b m (xs.drop k)).1, (fbS b m (xs.drop k)).2 + k)
theorem FbAt.start (n : Nat) (xs : List α) : FbAt b n xs 0 := ⟨n, by omega, by rw [List.drop_zero]; rfl⟩
theorem drop_at {xs : List α} {k : Nat} {y : α} (h : xs[k]? = some y) : xs.drop k = y :: xs.drop (k + 1) := by
  obtain ⟨hk, rfl⟩ := List.getElem?_eq_some_iff.1 h
  exact List.drop_eq_getElem_cons hk
theorem FbAt.full {n : Nat} {xs : List α} (h : FbAt b n xs n) : fbS b n xs = (none, n) := by
  obtain ⟨m, h1, h2⟩ := h
  obtain rfl : m = 0 := by omega
  rw [h2, fb_zero]; simp
theorem FbAt.done {n : Nat} {xs : List α} (h : FbAt b n xs xs.length) : fbS b n xs = (none, xs.length) := by
  obtain ⟨m, h1, h2⟩ := h
  rw [h2, List.drop_length, fb_nil]; simp
theorem FbAt.no {n k : Nat} {xs : List α} {y : α} (h : FbAt b n xs k) (hk : k < n) (hy : xs[k]? = some y) (hb : b y = false) : FbAt b n xs (k + 1) := by
  obtain ⟨m, h1, h2⟩ := h
  obtain ⟨m, rfl⟩ : ∃ j, m = j + 1 := ⟨m - 1, by omega⟩
  refine ⟨m, by omega, ?_⟩
  rw [h2, drop_at hy, fb_no hb]
  congr 1
  show _ + 1 + k = _ + (k + 1)
  omega
theorem FbAt.yes {n k : Nat} {xs : List α} {y : α} (h : FbAt b n xs k) (hk : k < n) (hy : xs[k]? = some y) (hb : b y = true) : fbS b n xs = (some y, k + 1) := by
  obtain ⟨m, h1, h2⟩ := h
  obtain ⟨m, rfl⟩ : ∃ j, m = j + 1 := ⟨m - 1, by omega⟩
  rw [h2, drop_at hy, fb_yes hb]
  show (some y, 1 + k) = _
  rw [Nat.add_comm]
theorem FbAt.le {n k : Nat} {xs : List α} (h : FbAt b n xs k) : k ≤ n := by obtain ⟨m, h1, _⟩ := h; omega
theorem fb_le (n : Nat) : ∀ l : List α, (fbS b n l).2 ≤ n := by
  induction n with
  | zero => intro l; rw [fb_zero]; exact Nat.le_refl _
  | succ n ih =>
    intro l
    cases l with
    | nil => rw [fb_nil]; exact Nat.zero_le _
    | cons q l =>
      cases h : b q with
      | true => rw [fb_yes h]; show 1 ≤ n + 1; omega
      | false => rw [fb_no h]; have := ih l; show _ + 1 ≤ n + 1; omega
theorem fb_some {n : Nat} {y : α} {t : Nat} : ∀ {l : List α}, fbS b n l = (some y, t) → y ∈ l ∧ b y = true ∧ 1 ≤ t ∧ t ≤ n := by
  induction n generalizing t with
  | zero => intro l h; rw [fb_zero] at h; cases h
  | succ n ih =>
    intro l h
    cases l with
    | nil => rw [fb_nil] at h; cases h
    | cons q l =>
      cases hb : b q with
      | true =>
        rw [fb_yes hb] at h
        injection h with h1 h2
        obtain rfl := Option.some.inj h1
        exact ⟨by simp, hb, by omega, by omega⟩
      | false =>
        rw [fb_no hb] at h
        injection h with h1 h2
        obtain ⟨h3, h4, h5, h6⟩ := ih (t := (fbS b n l).2) (l := l) (Prod.ext h1 rfl)
        exact ⟨by simp [h3], h4, by omega, by omega⟩
/-- steps, by the first that is better -/
theorem go_none {better : α → α → Bool} {mv : α → List α} {p : α} (n : Nat) : ∀ {l : List α} {t : Nat}, fbS (fun q => better q p) n l = (none, t) → goS better mv n p l = (p, t) := by
  induction n with
  | zero => intro l t h; rw [fb_zero] at h; injection h with _ h; rw [go_zero, h]
  | succ n ih =>
    intro l t h
    cases l with
    | nil => rw [fb_nil] at h; injection h with _ h; rw [go_nil, h]
    | cons q l =>
      cases hb : better q p with
      | true => rw [fb_yes (b := fun q => better q p) hb] at h; cases h
      | false =>
        rw [fb_no (b := fun q => better q p) hb] at h
        injection h with h1 h2
        rw [go_no hb, ih (l := l) (Prod.ext h1 rfl), ← h2]
theorem go_some {better : α → α → Bool} {mv : α → List α} {p q : α} (n : Nat) : ∀ {l : List α} {t : Nat}, fbS (fun q => better q p) n l = (some q, t) → ∃ m, n = t + m ∧ goS better mv n p l = ((goS better mv m q (mv q)).1, (goS better mv m q (mv q)).2 + t) := by
  induction n with
  | zero => intro l t h; rw [fb_zero] at h; cases h
  | succ n ih =>
    intro l t h
    cases l with
    | nil => rw [fb_nil] at h; cases h
    | cons z l =>
      cases hb : better z p with
      | true =>
        rw [fb_yes (b := fun q => better q p) hb] at h
        injection h with h1 h2
        obtain rfl := Option.some.inj h1
        subst h2
        exact ⟨n, by omega, by rw [go_yes hb]⟩
      | false =>
        rw [fb_no (b := fun q => better q p) hb] at h
        injection h with h1 h2
        obtain ⟨m, h3, h4⟩ := ih (l := l) (t := (fbS (fun q => better q p) n l).2) (Prod.ext h1 rfl)
        refine ⟨m, by omega, ?_⟩
        rw [go_no hb, h4, ← h2]
        show (_, _ + _ + 1) = (_, _ + (_ + 1))
        rw [Nat.add_assoc]
end
end Bt
namespace Go.Proofs.YtgjmlnpfkmpfgaaGreat
open Go.RowKit Go.Shelf
set_option linter.unusedVariables false
set_option maxRecDepth 100000
attribute [local go_sem] Oper.semAt_some

/-- a range whose variable lies in a box -/
theorem range_box {P : Program} {β : Type} {sb : Nat} {g : Operand} {p0 : Tmp} {assign body : Code} {Q : Exit → Act → World → Prop} {a : Act} {w : World} {gf : Nat} {lv : Array Value}
    (hg : a.eval g = .func (.func gf) #[] lv) (eg : ∀ args w, (callFunc gf args).run P w = .ok (.enter gf args) w)
    {V : β → Value → World → Prop} (hV : ∀ x v, Own (fun (_ : Unit) W => V x v W)) {xs : List β} {w0 : World} (hG : Gives sb P gf lv V xs w0) (hw : KM sb w0 w) (hva : ∀ x v W, V x v W → ∃ (A1 : Option Addr) (m1 c1 : Nat) (A2 : Option Addr) (m2 c2 : Nat), v = .agg #[.slice A1 m1 c1, .slice A2 m2 c2])
    (I : Nat → World → Prop) (Ix : Code → World → Prop) (hI : OwnFrom w.heap.size I) (hIx : ∀ c, OwnFrom w.heap.size (fun (_ : Unit) => Ix c)) (hM : ∀ k W, I k W → MnOk sb W) (h0 : I 0 w) (N : Nat) (hN : ∀ k W, I k W → N ≤ W.heap.size)
    (T : TypeId) (upd : Value → Nat → Array Value → Array Value)
    (hassign : ∀ (l : Nat) (A1 : Option Addr) (m1 c1 : Nat) (A2 : Option Addr) (m2 c2 : Nat) (W : World) (K : Act → World → Prop), K { tmps := upd (.agg #[.slice A1 m1 c1, .slice A2 m2 c2]) W.heap.size a.tmps, defers := [] } (W.alloc (.cells #[.slice A1 m1 c1, .slice A2 m2 c2] T)) →
      assign.wpIn (Fence.wide.inRound l) 0 P (Exit.then K (fun _ _ _ => False)) { tmps := a.tmps.setIfInBounds p0 (.agg #[.slice A1 m1 c1, .slice A2 m2 c2]), defers := [] } W)
    (hbody : ∀ (l k : Nat) (x : β) (A1 : Option Addr) (m1 c1 : Nat) (A2 : Option Addr) (m2 c2 : Nat) (b : Nat) (W : World), xs[k]? = some x → I k W → KM sb w W → V x (.agg #[.slice A1 m1 c1, .slice A2 m2 c2]) W → N ≤ b → Box W b #[.slice A1 m1 c1, .slice A2 m2 c2] T → body.wpIn (Fence.wide.inRound l) 0 P (BPost w.heap.size sb I Ix (k + 1) W) { tmps := upd (.agg #[.slice A1 m1 c1, .slice A2 m2 c2]) b a.tmps, defers := [] } W)
    (hdone : ∀ (D : Nat) (W : World), w.heap.size ≤ D → I xs.length W → KM sb w W → W.heap[D]? = some (.deferred (some [])) → Q .normal { a with defers := { target := .collected D, args := #[] } :: a.defers } W)
    (hstop : ∀ (D : Nat) (c : Code) (W : World), w.heap.size ≤ D → Ix c W → W.heap[D]? = some (.deferred (some [])) → c.wpIn Fence.wide 0 P Q { a with defers := { target := .collected D, args := #[] } :: a.defers } W) :
    (Code.rangeFunc g #[p0] assign body).wpIn Fence.wide 0 P Q a w :=
  range_it hg eg hV hG hw I Ix hI hIx hM h0 (fun v a' U => ∃ (b : Nat) (A1 : Option Addr) (m1 c1 : Nat) (A2 : Option Addr) (m2 c2 : Nat), v = .agg #[.slice A1 m1 c1, .slice A2 m2 c2] ∧ N ≤ b ∧ Box U b #[.slice A1 m1 c1, .slice A2 m2 c2] T ∧ a' = { tmps := upd v b a.tmps, defers := [] })
    (fun v a' _ A B row h hg hr => by
      obtain ⟨b, A1, m1, c1, A2, m2, c2, e1, hNb, hb, e2⟩ := h
      exact ⟨b, A1, m1, c1, A2, m2, c2, e1, hNb, box_kept hg (fun r e => (hr r e).2) hb, e2⟩)
    (fun l k x v W K hx hi hv hK => by
      obtain ⟨A1, m1, c1, A2, m2, c2, rfl⟩ := hva x v W hv
      exact hassign l A1 m1 c1 A2 m2 c2 W K (hK _ _ (below_alloc _ _) ⟨_, A1, m1, c1, A2, m2, c2, rfl, hN k W hi, Box.new W _ _, rfl⟩ (own_below (Own.from (hV x (.agg #[.slice A1 m1 c1, .slice A2 m2 c2])) 0) (s := ()) hv (below_alloc _ _))))
    (fun l k x v a' W hx hi hk hv ha => by
      obtain ⟨b, A1, m1, c1, A2, m2, c2, rfl, hNb, hb, rfl⟩ := ha
      exact hbody l k x A1 m1 c1 A2 m2 c2 b W hx hi hk hv hNb hb) hdone hstop

/-- a number is stored into the box of the one that ranges -/
theorem km_set {sb : Nat} {W : World} {v0 v1 : Value} {T : TypeId} (h : Box W sb #[v0] T) (h1 : v1.ownBlock = none) : KM sb W (W.setCell ⟨sb, 0, none⟩ v1) := by
  have hb : Box (W.setCell ⟨sb, 0, none⟩ v1) sb #[v1] T := h.set 0 v1 #[v1] rfl
  refine ⟨rfl, rfl, rfl, by rw [Go.Deep.nblk_setCell]; exact Nat.le_refl _, fun i _ hm => ?_, fun i o hn ho => ?_⟩
  · rcases (mn_own hb i).1 hm with e | e
    · exact .inl e
    · rw [h1] at e; cases e
  · exact (Go.Deep.blk_setCell_other _ _ _ _ (fun e => hn (.inl e))).trans ho
theorem mnok_int {sb : Nat} {W : World} {v : Value} {T : TypeId} (h : Box W sb #[v] T) (hv : v.ownBlock = none) : MnOk sb W := fun i hi => by
  rcases (mn_own h i).1 hi with rfl | e
  · exact ⟨_, _, _, h⟩
  · rw [hv] at e; cases e

theorem und_int3 : Tryz.prog.underlying 3 = some (.int .i64) := Tryz.underlying3
theorem load_one {W : World} {b : Nat} {v : Value} {T : TypeId} (h : Box W b #[v] T) (hT : T = 3 ∨ T = 4) : (loadVar T ⟨b, 0, none⟩).run Tryz.prog W = .ok v W := by
  have hc := h.cell 0 v rfl
  rcases hT with rfl | rfl
  · simp [loadVar, hc]
  · simp [loadVar, hc]
theorem results_fb {fn : Func} (h : fn.results = #[.cell 6 32, .cell 7 3, .cell 8 4]) (tmps : Array Value) {W : World} {b1 b2 b3 : Nat} {cs : Array Value} {v2 v3 : Value} (h1 : Box W b1 cs 32) (hs : cs.size = 2) (h2 : Box W b2 #[v2] 3) (h3 : Box W b3 #[v3] 4)
    (p1 : tmps.getD 6 undef = .pointer (some ⟨b1, 0, none⟩)) (p2 : tmps.getD 7 undef = .pointer (some ⟨b2, 0, none⟩)) (p3 : tmps.getD 8 undef = .pointer (some ⟨b3, 0, none⟩)) : (results fn tmps).run Tryz.prog W = .ok (.tuple #[.agg cs, v2, v3]) W := by
  have e1 : tmps[6]?.getD undef = .pointer (some ⟨b1, 0, none⟩) := by simpa using p1
  have e2 : tmps[7]?.getD undef = .pointer (some ⟨b2, 0, none⟩) := by simpa using p2
  have e3 : tmps[8]?.getD undef = .pointer (some ⟨b3, 0, none⟩) := by simpa using p3
  simp [results, h, e1, e2, e3, asAddr, load_plan h1 hs, load_one h2 (.inl rfl), load_one h3 (.inr rfl)]

end Go.Proofs.YtgjmlnpfkmpfgaaGreat
