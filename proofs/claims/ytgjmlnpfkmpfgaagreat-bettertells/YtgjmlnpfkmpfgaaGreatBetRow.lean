/- Rows of plans of a call's own: what an append makes of them. -/
import Derived.Test.YtgjmlnpfkmpfgaaGreatPlanR2
import Derived.Test.YtgjmlnpfkmpfgaaGreatPlanRow
import Derived.Maps.AppendAt
namespace Go.Proofs.YtgjmlnpfkmpfgaaGreat
open Go.RowKit
set_option linter.unusedVariables false
set_option maxRecDepth 100000

/-- plans as they lie -/
structure PlAt (w : World) (a : Addr) (r : Pd) : Prop where
  c0 : w.cell? a = some (.slice r.rA r.rm r.rc)
  c1 : w.cell? ⟨a.block, a.off + 1, none⟩ = some (.slice r.uA r.um r.uc)
def RowsP (w : World) (A : Option Addr) (rs : List Pd) : Prop := ∀ (k : Nat) (r : Pd), rs[k]? = some r → ∃ ad, A = some ad ∧ PlAt w (ad.add (k * 2)) r
theorem RowsP.below {w w' : World} {A : Option Addr} {rs : List Pd} (h : RowsP w A rs) (hb : Below w.heap.size w w') : RowsP w' A rs := fun k r hr => by
  obtain ⟨ad, e, h1, h2⟩ := h k r hr
  exact ⟨ad, e, by rw [hb.cell (p := ad.add (k * 2)) (lt_of_cell h1)]; exact h1, by rw [hb.cell (lt_of_cell h2)]; exact h2⟩
theorem RowsP.nil (w : World) (A : Option Addr) : RowsP w A [] := fun k r h => by simp at h

def pCells (rs : List Pd) : List Value := rs.flatMap fun r => [.slice r.rA r.rm r.rc, .slice r.uA r.um r.uc]
theorem pc_cons (r : Pd) (l : List Pd) : pCells (r :: l) = .slice r.rA r.rm r.rc :: .slice r.uA r.um r.uc :: pCells l := rfl
theorem pc_app (a b : List Pd) : pCells (a ++ b) = pCells a ++ pCells b := List.flatMap_append
theorem pc_len (l : List Pd) : (pCells l).length = l.length * 2 := by
  induction l with
  | nil => rfl
  | cons r l ih => rw [pc_cons]; simp only [List.length_cons, ih]; omega
theorem pc_at {l : List Pd} {k : Nat} {r : Pd} (h : l[k]? = some r) : (pCells l)[k * 2]? = some (.slice r.rA r.rm r.rc) ∧ (pCells l)[k * 2 + 1]? = some (.slice r.uA r.um r.uc) := by
  induction l generalizing k with
  | nil => simp at h
  | cons a l ih =>
    rw [pc_cons]
    cases k with
    | zero => simp at h; subst h; exact ⟨rfl, rfl⟩
    | succ k =>
      have := ih (k := k) (by simpa using h)
      rw [show (k + 1) * 2 = k * 2 + 1 + 1 by omega]
      simpa using this
theorem pc_inv {l : List Pd} {j : Nat} {u : Value} (h : (pCells l)[j]? = some u) : ∃ (k : Nat) (r : Pd), l[k]? = some r ∧ (j = k * 2 ∧ u = .slice r.rA r.rm r.rc ∨ j = k * 2 + 1 ∧ u = .slice r.uA r.um r.uc) := by
  induction l generalizing j with
  | nil => simp [pCells] at h
  | cons a l ih =>
    rw [pc_cons] at h
    match j with
    | 0 => exact ⟨0, a, rfl, .inl ⟨rfl, by simpa using h.symm⟩⟩
    | 1 => exact ⟨0, a, rfl, .inr ⟨rfl, by simpa using h.symm⟩⟩
    | j + 2 =>
      obtain ⟨k, r, h1, h2⟩ := ih (j := j) (by simpa using h)
      refine ⟨k + 1, r, by simpa using h1, ?_⟩
      rcases h2 with ⟨e, h⟩ | ⟨e, h⟩
      · exact .inl ⟨by omega, h⟩
      · exact .inr ⟨by omega, h⟩
theorem pc_one {l : List Pd} : ∀ u ∈ pCells l, u.oneCell' = true := by
  intro u hu
  obtain ⟨j, hj⟩ := List.getElem?_of_mem hu
  obtain ⟨k, r, _, ⟨_, rfl⟩ | ⟨_, rfl⟩⟩ := pc_inv hj <;> rfl
theorem RowsP.cells {W : World} {ad : Addr} {l : List Pd} (h : RowsP W (some ad) l) {j : Nat} {u : Value} (hu : (pCells l)[j]? = some u) : W.cell? (ad.add j) = some u := by
  obtain ⟨k, r, h1, h2⟩ := pc_inv hu
  obtain ⟨ad', e, c0, c1⟩ := h k r h1
  obtain rfl := Option.some.inj e
  rcases h2 with ⟨rfl, rfl⟩ | ⟨rfl, rfl⟩
  · exact c0
  · rw [← add_two]; exact c1
theorem RowsP.of {W : World} {ad : Addr} {l : List Pd} (h : ∀ (j : Nat) (u : Value), (pCells l)[j]? = some u → W.cell? (ad.add j) = some u) : RowsP W (some ad) l := fun k r hr => by
  obtain ⟨h1, h2⟩ := pc_at hr
  exact ⟨ad, rfl, h _ _ h1, by rw [add_two]; exact h _ _ h2⟩
theorem RowsP.take {W : World} {A : Option Addr} {l : List Pd} (h : RowsP W A l) (k : Nat) : RowsP W A (l.take k) := fun j r hr => by
  refine h j r ?_
  by_cases hj : j < k
  · rwa [List.getElem?_take_of_lt hj] at hr
  · rw [List.getElem?_eq_none (by rw [List.length_take]; omega)] at hr; cases hr
theorem RowsP.drop {W : World} {ad : Addr} {l : List Pd} (h : RowsP W (some ad) l) (k : Nat) : RowsP W (some (ad.add (k * 2))) (l.drop k) := fun j r hr => by
  rw [List.getElem?_drop] at hr
  obtain ⟨ad', e, c0, c1⟩ := h (k + j) r hr
  obtain rfl := Option.some.inj e
  have e2 : (ad.add (k * 2)).add (j * 2) = ad.add ((k + j) * 2) := by rw [add_plus]; congr 1; omega
  exact ⟨_, rfl, by rw [e2]; exact c0, by rw [e2]; exact c1⟩

theorem plan_info : (Tryz.prog.info? 32).map (fun i => (i.zero, i.size, i.bytes)) = some (some (.agg #[.slice none 0 0, .slice none 0 0]), 2, 48) := by kernel_rfl
def OwnP (W : World) (base : Nat) (v : Value) (l : List Pd) : Prop := W.ownsRow base 32 2 v l.length (pCells l)
theorem ownP_nil (W : World) (base : Nat) : OwnP W base (.slice none 0 0) [] := ⟨by simp [pCells], .inl ⟨rfl, rfl⟩⟩
theorem ownP_none (W : World) (base : Nat) (h : base ≤ W.heap.size) : OwnP (W.alloc (.cells #[] 32)) base (.slice (some ⟨W.heap.size, 0, none⟩) 0 0) [] :=
  ⟨by simp [pCells], .inr ⟨W.heap.size, 0, #[], rfl, h, heap_alloc_new W _, Nat.le_refl _, by decide, by simp, by simp [pCells]⟩⟩
theorem OwnP.row {W : World} {base : Nat} {v : Value} {l : List Pd} (h : OwnP W base v l) : ∃ A c, v = .slice A l.length c ∧ l.length ≤ c ∧ c ≤ maxLen ∧ RowsP W A l ∧ ∀ ad, A = some ad → base ≤ ad.block ∧ ad.block < W.heap.size ∧ ad.off = 0 ∧ ad.spot = none := by
  have h' := h
  rcases h'.2 with ⟨rfl, h2⟩ | ⟨g, cap, cur, rfl, hbg, hg, hnc, hcm, _⟩
  · have : l = [] := List.eq_nil_of_length_eq_zero h2
    subst this
    exact ⟨none, 0, rfl, Nat.le_refl _, by decide, RowsP.nil _ _, fun ad e => by cases e⟩
  · refine ⟨_, cap, rfl, hnc, hcm, RowsP.of fun j u hu => h.cells (g := g) rfl j _ hu, fun ad e => ?_⟩
    obtain rfl := Option.some.inj e
    exact ⟨hbg, (Array.getElem?_eq_some_iff.1 hg).1, rfl, rfl⟩
theorem OwnP.put {W W' : World} {base : Nat} {v : Value} {l : List Pd} (h : OwnP W base v l) (hb : ∀ k, base ≤ k → k < W.heap.size → W'.heap[k]? = W.heap[k]?) : OwnP W' base v l := by
  obtain ⟨h1, h2⟩ := h
  refine ⟨h1, ?_⟩
  rcases h2 with h2 | ⟨g, cap, cur, hv, hg, hh, r⟩
  · exact .inl h2
  · exact .inr ⟨g, cap, cur, hv, hg, (hb g hg (Array.getElem?_eq_some_iff.1 hh).1).trans hh, r⟩
theorem OwnP.below {W W' : World} {base : Nat} {v : Value} {l : List Pd} (h : OwnP W base v l) (hb : Below W.heap.size W W') : OwnP W' base v l := h.put fun k _ hk => hb.block k hk
/-- its block as it is, whatever else turned -/
theorem OwnP.at_ {W W' : World} {base g n c : Nat} {l : List Pd} (h : OwnP W base (.slice (some ⟨g, 0, none⟩) n c) l) (hb : W'.heap[g]? = W.heap[g]?) : OwnP W' base (.slice (some ⟨g, 0, none⟩) n c) l := by
  obtain ⟨h1, h2⟩ := h
  refine ⟨h1, ?_⟩
  rcases h2 with ⟨e, _⟩ | ⟨g', cap, cur, hv, hg, hh, r⟩
  · cases e
  · have hv' := hv
    injection hv' with hv' _ _
    have e : g = g' := by injection hv' with hv'; injection hv' with hv'
    rw [e] at hb
    exact .inr ⟨g', cap, cur, hv, hg, hb.trans hh, r⟩
theorem OwnP.fz {W : World} {base g n c : Nat} {l : List Pd} (h : OwnP W base (.slice (some ⟨g, 0, none⟩) n c) l) (k : Nat) : W.frozen? ⟨g, k, none⟩ = false := by
  obtain ⟨h1, h2⟩ := h
  rcases h2 with ⟨e, _⟩ | ⟨g', cap, cur, hv, hg, hh, _⟩
  · cases e
  · injection hv with hv _ _
    obtain rfl : g = g' := by injection hv with hv; injection hv with hv
    unfold World.frozen?; rw [hh]; simp


theorem OwnP.lower {W : World} {a b : Nat} {v : Value} {l : List Pd} (h : OwnP W b v l) (hab : a ≤ b) : OwnP W a v l := by
  obtain ⟨h1, h2⟩ := h
  refine ⟨h1, ?_⟩
  rcases h2 with h2 | ⟨g, cap, cur, hv, hg, r⟩
  · exact .inl h2
  · exact .inr ⟨g, cap, cur, hv, Nat.le_trans hab hg, r⟩
/-- an append to such a row, and where that lies -/
theorem ownp_app_at {W : World} {base : Nat} {v : Value} {l : List Pd} (h : OwnP W base v l) (hb : base ≤ W.heap.size) (A : Option Addr) (m c : Nat) (b : List Pd) (hm : b.length = m) (hby : RowsP W A b) (hs : l.length + m ≤ 100000) (M : Nat) (hM : (l ++ b).length = M) :
    ∃ v' w', (Builtin.append_ #[36, 36] 36 #[v, .slice A m c]).run Tryz.prog W = .ok v' w' ∧ (∃ A' c', v' = .slice A' M c') ∧ Hid (OwnP w' base v' (l ++ b) ∧ Below base W w' ∧ (∀ k, k < W.heap.size → v.ownBlock ≠ some k → w'.heap[k]? = W.heap[k]?) ∧ W.heap.size ≤ w'.heap.size ∧ (v'.ownBlock = v.ownBlock ∨ v'.ownBlock = some W.heap.size)) := by
  obtain ⟨i0, hi0, hz0, hz1, hz2⟩ := info_parts4 plan_info
  have hM' : l.length + m = M := by rw [← hM, List.length_append, hm]
  cases A with
  | none =>
    have hl0 : b = [] := by
      cases b with
      | nil => rfl
      | cons z b =>
        obtain ⟨ad, h1, _⟩ := hby 0 z rfl
        cases h1
    subst hl0
    obtain rfl : m = 0 := by simpa using hm.symm
    obtain rfl : l.length = M := by simpa using hM
    rw [List.append_nil]
    obtain ⟨A', c', e, _⟩ := h.row
    refine ⟨v, W, ?_, ⟨A', c', e⟩, h, Below.refl _ _, fun _ _ _ => rfl, Nat.le_refl _, .inl rfl⟩
    rcases h.2 with ⟨rfl, h0⟩ | ⟨g, cap, cur, rfl, _, _, hnc, _⟩
    · simp [Builtin.append_, run_underlying Tryz.underlying36, sizeOf, typeInfo, hi0, Builtin.lenOf, Builtin.firstCells]
    · simp [Builtin.append_, run_underlying Tryz.underlying36, sizeOf, typeInfo, hi0, Builtin.lenOf, Builtin.firstCells, hnc, storeCells]
  | some ad =>
    obtain ⟨v', w', h1, h2, h3, _, h5⟩ := run_append_own_at (P := Tryz.prog) W base 36 36 32 i0 _ 2 48 Tryz.underlying36 hi0 hz0 hz1 hz2 rfl (by omega) v l.length (pCells l) h ad m c (pCells b) (by rw [pc_len, hm])
      (fun j u hu => hby.cells hu) pc_one (by unfold maxLen; omega) (by omega) hb
    have ho : OwnP w' base v' (l ++ b) := by unfold OwnP; rw [List.length_append, hm, pc_app]; exact h2
    obtain ⟨A', c', e, _⟩ := ho.row
    rw [hM] at e
    refine ⟨v', w', h1, ⟨A', c', e⟩, ho, ?_, fun k hk hv => h3.block k hk (fun e => hv e.symm), h3.size, h5⟩
    exact ⟨h3.os, h3.tape, h3.output, h3.size, fun k hk => h3.block k (Nat.lt_of_lt_of_le hk hb) (fun e => by have := (h.lt k e.symm).1; omega)⟩

/-- what lies from a block on, but in one: however the rest is changed -/
def Agr (lo : Nat) (g : Option Nat) (W W' : World) : Prop := ∀ k, lo ≤ k → k < W.heap.size → some k ≠ g → W'.heap[k]? = W.heap[k]?
def St (W : World) (lo : Nat) (g : Option Nat) (P : World → Prop) : Prop := ∀ W', Agr lo g W W' → P W'
theorem St.now {W : World} {lo : Nat} {g : Option Nat} {P : World → Prop} (h : St W lo g P) : P W := h W fun _ _ _ _ => rfl
theorem St.step {W W' : World} {lo lo' : Nat} {g g' : Option Nat} {P : World → Prop} (h : St W lo g P) (ha : Agr lo g W W') (hlo : ∀ k, lo ≤ k → k < W.heap.size → some k ≠ g → lo' ≤ k ∧ some k ≠ g') (hs : W.heap.size ≤ W'.heap.size) : St W' lo' g' P := fun W'' h2 => h W'' fun k h3 h4 h5 => by
  obtain ⟨h6, h7⟩ := hlo k h3 h4 h5
  exact (h2 k h6 (Nat.lt_of_lt_of_le h4 hs) h7).trans (ha k h3 h4 h5)
theorem St.below {W W' : World} {lo : Nat} {g : Option Nat} {P : World → Prop} (h : St W lo g P) (hb : Below W.heap.size W W') : St W' lo g P := h.step (fun k _ hk _ => hb.block k hk) (fun k h1 _ h2 => ⟨h1, h2⟩) hb.size
theorem St.mono {W : World} {lo lo' : Nat} {g : Option Nat} {P : World → Prop} (h : St W lo g P) (hl : lo' ≤ lo) : St W lo' g P := fun W' ha => h W' fun k h1 h2 h3 => ha k (Nat.le_trans hl h1) h2 h3
/-- from a later block on: an earlier one, or a later one, may be left out -/
theorem St.out {W : World} {lo : Nat} {P : World → Prop} (h : St W lo none P) {g : Option Nat} (hg : ∀ k, g = some k → k < lo ∨ W.heap.size ≤ k) : St W lo g P := fun W' ha => h W' fun k h1 h2 h3 => ha k h1 h2 fun e => by
  rcases hg k e.symm with h4 | h4 <;> omega
theorem St.imp {W : World} {lo : Nat} {g : Option Nat} {P Q : World → Prop} (h : St W lo g P) (hi : ∀ W', P W' → Q W') : St W lo g Q := fun W' ha => hi W' (h W' ha)
theorem St.ints {W : World} {lo : Nat} {g : Option Nat} {A : Option Addr} {l : List Int} (h : IntsAt W A l) (hl : ∀ ad, A = some ad → lo ≤ ad.block ∧ some ad.block ≠ g) : St W lo g fun W' => IntsAt W' A l := fun W' ha j z hz => by
  obtain ⟨ad, e, hc⟩ := h j z hz
  obtain ⟨h1, h2⟩ := hl ad e
  have hblk : (ad.add j).block = ad.block := by unfold Addr.add; split <;> rfl
  have hlt := lt_of_cell hc
  rw [hblk] at hlt
  refine ⟨ad, e, ?_⟩
  rw [World.cell?_of_block (w := W) (w' := W') (by rw [hblk]; exact ha _ h1 hlt h2)]
  exact hc
theorem St.rows {W : World} {lo : Nat} {g : Option Nat} {A : Option Addr} {l : List Rd} (h : RowsR W A l) (hl : ∀ ad, A = some ad → lo ≤ ad.block ∧ some ad.block ≠ g) : St W lo g fun W' => RowsR W' A l := fun W' ha j r hr => by
  obtain ⟨ad, e, c0, c1⟩ := h j r hr
  obtain ⟨h1, h2⟩ := hl ad e
  have hblk : (ad.add (j * 2)).block = ad.block := by unfold Addr.add; split <;> rfl
  have hlt := lt_of_cell c0
  rw [hblk] at hlt
  refine ⟨ad, e, ?_, ?_⟩
  · rw [World.cell?_of_block (w := W) (w' := W') (by rw [hblk]; exact ha _ h1 hlt h2)]
    exact c0
  · rw [World.cell?_of_block (w := W) (w' := W') (by show W'.heap[(ad.add (j * 2)).block]? = _; rw [hblk]; exact ha _ h1 hlt h2)]
    exact c1

/-- only one's own block has changed; it is where it was, or new -/
def Nw (W W' : World) (v v' : Value) : Prop := (∀ k, k < W.heap.size → v.ownBlock ≠ some k → W'.heap[k]? = W.heap[k]?) ∧ (v'.ownBlock = v.ownBlock ∨ ∃ K, v'.ownBlock = some K ∧ W.heap.size ≤ K)
theorem Nw.pre {W W1 W' : World} {v v' : Value} (hb : Below W.heap.size W W1) (h : Nw W1 W' v v') : Nw W W' v v' := ⟨fun k h1 h2 => (h.1 k (Nat.lt_of_lt_of_le h1 hb.size) h2).trans (hb.block k h1), h.2.imp id fun ⟨K, e, hk⟩ => ⟨K, e, Nat.le_trans hb.size hk⟩⟩
/-- plans of one's own, each wherever the row lies -/
structure PLs (W : World) (base : Nat) (v : Value) (l : List Pd) : Prop where
  own : OwnP W base v l
  st : ∀ p ∈ l, St W base v.ownBlock fun W' => PAt W' p
theorem PLs.below {W W' : World} {base : Nat} {v : Value} {l : List Pd} (h : PLs W base v l) (hb : Below W.heap.size W W') : PLs W' base v l := ⟨h.own.below hb, fun p hp => (h.st p hp).below hb⟩
theorem PLs.new0 (W : World) : PLs (W.alloc (.cells #[] 32)) W.heap.size (.slice (some ⟨W.heap.size, 0, none⟩) 0 0) [] := ⟨ownP_none W _ (Nat.le_refl _), fun p hp => by cases hp⟩
theorem PLs.lower {W : World} {a b : Nat} {v : Value} {l : List Pd} (h : PLs W b v l) (hab : a ≤ b) : PLs W a v l := ⟨h.own.lower hab, fun p hp => (h.st p hp).mono hab⟩
/-- plans are appended -/
theorem PLs.app {W : World} {base : Nat} {v : Value} {l : List Pd} (h : PLs W base v l) (hb : base ≤ W.heap.size) (A : Option Addr) (m c : Nat) (b : List Pd) (hm : b.length = m) (hby : RowsP W A b) (hst : ∀ p ∈ b, St W base v.ownBlock fun W' => PAt W' p) (hs : l.length + m ≤ 100000) (M : Nat) (hM : (l ++ b).length = M) :
    ∃ v' w', (Builtin.append_ #[36, 36] 36 #[v, .slice A m c]).run Tryz.prog W = .ok v' w' ∧ ∃ A' c', v' = .slice A' M c' ∧ Hid (PLs w' base (.slice A' M c') (l ++ b) ∧ Below base W w' ∧ Nw W w' v (.slice A' M c')) := by
  obtain ⟨v', w', h1, ⟨A', c', e⟩, h2⟩ := ownp_app_at h.own hb A m c b hm hby hs M hM
  subst e
  obtain ⟨o1, o2, o3, o4, o5⟩ := h2.out
  refine ⟨_, w', h1, A', c', rfl, ⟨o1, fun p hp => ?_⟩, o2, o3, o5.imp id fun e => ⟨_, e, Nat.le_refl _⟩⟩
  have hp' : St W base v.ownBlock fun W' => PAt W' p := by
    rcases List.mem_append.1 hp with hp | hp
    · exact h.st p hp
    · exact hst p hp
  refine hp'.step (fun k _ hk hg => o3 k hk (fun e => hg e.symm)) (fun k h3 h4 h5 => ⟨h3, fun e => ?_⟩) o4
  rcases o5 with o5 | o5
  · exact h5 (e.trans o5)
  · rw [o5] at e
    injection e with e
    omega
/-- one plan more, of what lies from a later block on -/
theorem PLs.one {W : World} {base lo n c : Nat} {A : Option Addr} {l : List Pd} (h : PLs W base (.slice A n c) l) (hn : l.length = n) (hb : base ≤ W.heap.size) (p : Pd) (hp : St W lo none fun W' => PAt W' p) (hlo : ∀ k, (Value.slice A n c).ownBlock = some k → k < lo) (hbl : base ≤ lo) (hs : n ≤ 50000) :
    ∃ v' w', (Builtin.append_ #[36, 36] 36 #[.slice A n c, .slice (some ⟨W.heap.size, 0, none⟩) 1 1]).run Tryz.prog (W.alloc (.cells #[.slice p.rA p.rm p.rc, .slice p.uA p.um p.uc] 32)) = .ok v' w' ∧ ∃ A' c', v' = .slice A' (n + 1) c' ∧ Hid (PLs w' base (.slice A' (n + 1) c') (l ++ [p]) ∧ Below base W w' ∧ Nw W w' (.slice A n c) (.slice A' (n + 1) c')) := by
  have hbel : Below W.heap.size W (W.alloc (.cells #[.slice p.rA p.rm p.rc, .slice p.uA p.um p.uc] 32)) := below_alloc _ _
  have hbx : Box (W.alloc (.cells #[.slice p.rA p.rm p.rc, .slice p.uA p.um p.uc] 32)) W.heap.size #[.slice p.rA p.rm p.rc, .slice p.uA p.um p.uc] 32 := Box.new W _ _
  have hrow : RowsP (W.alloc (.cells #[.slice p.rA p.rm p.rc, .slice p.uA p.um p.uc] 32)) (some ⟨W.heap.size, 0, none⟩) [p] := fun k s hk => by
    have hk0 : k = 0 := by have := (List.getElem?_eq_some_iff.1 hk).1; simp at this; exact this
    subst hk0
    obtain rfl : p = s := by simpa using hk
    refine ⟨_, rfl, ?_, ?_⟩
    · rw [add_flat]; exact hbx.cell 0 _ rfl
    · rw [add_flat]; exact hbx.cell 1 _ rfl
  obtain ⟨v', w', h1, A', c', e, h2⟩ := (h.below hbel).app (Nat.le_trans hb hbel.size) (some ⟨W.heap.size, 0, none⟩) 1 1 [p] rfl hrow (fun q hq => by
    obtain rfl := List.mem_singleton.1 hq
    exact ((hp.below hbel).out fun k e => .inl (hlo k e)).mono hbl) (by omega) (n + 1) (by rw [List.length_append, hn]; rfl)
  exact ⟨v', w', h1, A', c', e, h2.out.1, (hbel.mono hb).trans h2.out.2.1, h2.out.2.2.pre hbel⟩
end Go.Proofs.YtgjmlnpfkmpfgaaGreat
