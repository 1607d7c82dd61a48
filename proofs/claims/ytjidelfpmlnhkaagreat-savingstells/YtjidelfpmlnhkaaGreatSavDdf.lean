/- Texts joined: The document's answer: a first plan, in memory. The document's answer for rows: rows of rows, cut and joined. -/
import Derived.Test.YtjidelfpmlnhkaaGreatSavI
import Derived.Test.YtjidelfpmlnhkaaGreatMaths
import Derived.Test.YtjidelfpmlnhkaaGreatPlanR2
import Derived.Test.YtjidelfpmlnhkaaGreatSavDc
import Derived.Test.YtjidelfpmlnhkaaGreatPlanR1
import Derived.Maps.AppendAt
section
/-! The document's answer: a first plan, in memory. -/
namespace Go.Proofs.YtjidelfpmlnhkaaGreat
open Go.RowKit Go.Shelf Go.Sort
set_option linter.unusedVariables false
set_option maxRecDepth 100000

/-- no route's block is changed -/
def KeepQ (W W' : World) : Prop := ∀ (k : Nat) (cs : Array Value) (fz : Nat × Nat), W.heap[k]? = some (.cells cs 58 fz) → W'.heap[k]? = W.heap[k]?
theorem OwnQ.hold {W W' : World} {base : Nat} {v : Value} {l : List Rd} (h : OwnQ W base v l) (hk : KeepQ W W') : OwnQ W' base v l := by
  obtain ⟨h1, h2⟩ := h
  refine ⟨h1, ?_⟩
  rcases h2 with h2 | ⟨g, cap, cur, hv, hg, hh, r⟩
  · exact .inl h2
  · exact .inr ⟨g, cap, cur, hv, hg, (hk g _ _ hh).trans hh, r⟩
theorem OwnI.hold {W W' : World} {base : Nat} {v : Value} {l : List Int} (h : OwnI W base v l) (hk : KeepI W W') : OwnI W' base v l := by
  obtain ⟨h1, h2⟩ := h
  refine ⟨h1, ?_⟩
  rcases h2 with h2 | ⟨g, cap, cur, hv, hg, hh, r⟩
  · exact .inl h2
  · exact .inr ⟨g, cap, cur, hv, hg, (hk g _ _ hh).trans hh, r⟩
/-- a number more, behind a row of a call's own -/
theorem owni_one2 {W : World} {base : Nat} {A : Option Addr} {n c : Nat} {l : List Int} (h : OwnI W base (.slice A n c) l) (hn : l.length = n) (hb : base ≤ W.heap.size) (z : Int) (hs : n ≤ 1000) :
    ∃ v' w', (Builtin.append_ #[29, 29] 29 #[.slice A n c, .slice (some ⟨W.heap.size, 0, none⟩) 1 1]).run Tryz.prog (W.alloc (.cells #[.int .i64 z] 3)) = .ok v' w' ∧ ∃ A' c', v' = .slice A' (n + 1) c' ∧ Hid (OwnI w' base (.slice A' (n + 1) c') (l ++ [z]) ∧ RowKit.Below base W w' ∧ KeepQ W w') := by
  have hbel : RowKit.Below W.heap.size W (W.alloc (.cells #[.int .i64 z] 3)) := below_alloc _ _
  obtain ⟨v', w', h1, ⟨A', c', e⟩, h2⟩ := owni_app_at (h.below hbel) (Nat.le_trans hb hbel.size) (some ⟨W.heap.size, 0, none⟩) 1 1 [z] rfl (ints1 W z 3) (by omega) (n + 1) (by rw [List.length_append, hn]; rfl)
  obtain ⟨o1, o2, o3, o4, o5⟩ := h2.out
  subst e
  refine ⟨_, w', h1, A', c', rfl, o1, (hbel.mono hb).trans o2, fun k cs fz e => ?_⟩
  have hk : k < W.heap.size := (Array.getElem?_eq_some_iff.1 e).1
  refine (o3 k (Nat.lt_of_lt_of_le hk hbel.size) fun e2 => ?_).trans (hbel.block k hk)
  rcases h.2 with ⟨e3, _⟩ | ⟨g, cap, cur, e3, hbg, hg, _⟩
  · rw [e3] at e2; cases e2
  · rw [e3] at e2
    obtain rfl := Option.some.inj e2
    rw [hg] at e
    injection e with e
    injection e with _ e _
    cases e
/-- a route more, behind a row of a call's own -/
theorem ownq_one2 {W : World} {base : Nat} {A : Option Addr} {n c : Nat} {l : List Rd} (h : OwnQ W base (.slice A n c) l) (hn : l.length = n) (hb : base ≤ W.heap.size) (r : Rd) (hs : n ≤ 1000) :
    ∃ v' w', (Builtin.append_ #[38, 38] 38 #[.slice A n c, .slice (some ⟨W.heap.size, 0, none⟩) 1 1]).run Tryz.prog ((W.alloc (.cells #[.int .i64 r.tr, .slice r.sA r.sm r.sc] 58)).drew) = .ok v' w' ∧ ∃ A' c', v' = .slice A' (n + 1) c' ∧ Hid (OwnQ w' base (.slice A' (n + 1) c') (l ++ [r]) ∧ RowKit.Below base W w' ∧ KeepI W w') := by
  have hbel : RowKit.Below W.heap.size W ((W.alloc (.cells #[.int .i64 r.tr, .slice r.sA r.sm r.sc] 58)).drew) := (below_alloc _ _).drew
  have hbx : Box ((W.alloc (.cells #[.int .i64 r.tr, .slice r.sA r.sm r.sc] 58)).drew) W.heap.size #[.int .i64 r.tr, .slice r.sA r.sm r.sc] 58 := Box.new W _ _
  have hrow : RowsR ((W.alloc (.cells #[.int .i64 r.tr, .slice r.sA r.sm r.sc] 58)).drew) (some ⟨W.heap.size, 0, none⟩) [r] := fun k s hk => by
    have hk0 : k = 0 := by have := (List.getElem?_eq_some_iff.1 hk).1; simp at this; exact this
    subst hk0
    obtain rfl : r = s := by simpa using hk
    refine ⟨_, rfl, ?_, ?_⟩
    · rw [add_flat]; exact hbx.cell 0 _ rfl
    · rw [add_flat]; exact hbx.cell 1 _ rfl
  obtain ⟨i0, hi0, hz0, hz1, hz2⟩ := info_parts4 route_info
  obtain ⟨v', w', h1, h2, h3, _⟩ := run_append_own (P := Tryz.prog) ((W.alloc (.cells #[.int .i64 r.tr, .slice r.sA r.sm r.sc] 58)).drew) base 38 38 58 i0 _ 2 32 Tryz.underlying38 hi0 hz0 hz1 hz2 rfl (by omega) (.slice A n c) l.length (rCells l) (h.below hbel) ⟨W.heap.size, 0, none⟩ 1 1 (rCells [r]) (by rw [rc_len]; rfl)
    (fun j u hu => hrow.cells hu) rc_one (by unfold maxLen; omega) (by omega) (Nat.le_trans hb hbel.size)
  have ho : OwnQ w' base v' (l ++ [r]) := by unfold OwnQ; rw [List.length_append, rc_app]; exact h2
  obtain ⟨A', c', e, _⟩ := ho.row
  rw [List.length_append, hn] at e
  have hoff : ∀ k, (Value.slice A n c).ownBlock = some k → ∃ cs : Array Value, W.heap[k]? = some (.cells cs 58 (0, 0)) ∧ base ≤ k := fun k e2 => by
    rcases h.2 with ⟨e3, _⟩ | ⟨g, cap, cur, e3, hbg, hg, _⟩
    · rw [e3] at e2; cases e2
    · rw [e3] at e2
      obtain rfl := Option.some.inj e2
      exact ⟨cur, hg, hbg⟩
  have hne : ∀ k, k < W.heap.size → (Value.slice A n c).ownBlock ≠ some k → w'.heap[k]? = W.heap[k]? := fun k hk e => (h3.block k (Nat.lt_of_lt_of_le hk hbel.size) (fun x => e x.symm)).trans (hbel.block k hk)
  refine ⟨v', w', h1, A', c', e, by rw [← show v' = .slice A' (n + 1) c' from e]; exact ho, ⟨h3.os.trans hbel.os, h3.tape.trans hbel.tape, h3.output.trans hbel.output, Nat.le_trans hbel.size h3.size, fun k hk => hne k (Nat.lt_of_lt_of_le hk hb) fun e2 => ?_⟩, fun k cs fz e2 => hne k (Array.getElem?_eq_some_iff.1 e2).1 fun e3 => ?_⟩
  · obtain ⟨_, _, h5⟩ := hoff k e2
    omega
  · obtain ⟨cs', e4, _⟩ := hoff k e3
    rw [e4] at e2
    injection e2 with e2
    injection e2 with _ e2 _
    cases e2

/-- what is known while the document's plan is made: its box, its routes, the trucks that are used -/
structure LD (V2 : World) (hp : Nat) (rA : Option Addr) (rm rc : Nat) (rs : List Rd) (uA : Option Addr) (un uc : Nat) (us : List Int) (W : World) : Prop where
  lo : V2.heap.size ≤ hp
  bel : RowKit.Below V2.heap.size V2 W
  pb : Box W hp #[.slice rA rm rc, .slice none 0 0] 40
  own : OwnQ W (hp + 1) (.slice rA rm rc) rs
  used : OwnI W (hp + 1) (.slice uA un uc) us
  rl : rs.length = rm
  ul : us.length = un
theorem LD.below {V2 W W' : World} {hp rm rc un uc : Nat} {rA uA : Option Addr} {rs : List Rd} {us : List Int} (h : LD V2 hp rA rm rc rs uA un uc us W) (hb : RowKit.Below W.heap.size W W') : LD V2 hp rA rm rc rs uA un uc us W' :=
  ⟨h.lo, below_next h.bel hb, h.pb.below hb, h.own.below hb, h.used.below hb, h.rl, h.ul⟩
theorem LD.use {V2 W W' : World} {hp rm rc un uc uc' : Nat} {rA uA uA' : Option Addr} {rs : List Rd} {us : List Int} {z : Int} (h : LD V2 hp rA rm rc rs uA un uc us W) (ho : OwnI W' (hp + 1) (.slice uA' (un + 1) uc') (us ++ [z])) (hb : RowKit.Below (hp + 1) W W') (hk : KeepQ W W') : LD V2 hp rA rm rc rs uA' (un + 1) uc' (us ++ [z]) W' := by
  have hlo := h.lo
  exact ⟨hlo, h.bel.trans (hb.mono (by omega)), h.pb.old hb (Nat.lt_succ_self _), h.own.hold hk, ho, h.rl, by rw [List.length_append, h.ul]; rfl⟩
theorem LD.store {V2 W W2 : World} {hp rm rc un uc rm' rc' : Nat} {rA uA rA' : Option Addr} {rs rs' : List Rd} {us : List Int} (h : LD V2 hp rA rm rc rs uA un uc us W) (hb : RowKit.Below (hp + 1) W W2) (hk : KeepI W W2) (ho : OwnQ W2 (hp + 1) (.slice rA' rm' rc') rs') (hl : rs'.length = rm') :
    LD V2 hp rA' rm' rc' rs' uA un uc us (W2.setCell ⟨hp, 0, none⟩ (.slice rA' rm' rc')) := by
  have hlo := h.lo
  have hpb := h.pb.old hb (Nat.lt_succ_self _)
  exact ⟨hlo, (h.bel.trans (hb.mono (by omega))).setCell (p := ⟨hp, 0, none⟩) hlo _, hpb.set 0 _ _ rfl, ho.put fun k hk' _ => Go.Deep.blk_setCell_other _ _ _ _ (by show k ≠ hp; omega), h.used.hold (hk.trans (keepI_set hpb _)), hl, h.ul⟩
end Go.Proofs.YtjidelfpmlnhkaaGreat
end

section
/-! The document's answer for rows: rows of rows, cut and joined. -/
namespace Go.Proofs.YtjidelfpmlnhkaaGreat
open Go.RowKit Go.Shelf
set_option linter.unusedVariables false
set_option maxRecDepth 100000

/-- rows that lie one behind the other -/
def ValsS (W : World) (A : Option Addr) (l : List Rw) : Prop := ∀ (k : Nat) (r : Rw), l[k]? = some r → ∃ ad, A = some ad ∧ W.cell? (ad.add k) = some (.slice r.A r.m r.c)
theorem ValsS.nil (W : World) (A : Option Addr) : ValsS W A [] := fun k r h => by simp at h
theorem ValsS.below {W W' : World} {A : Option Addr} {l : List Rw} (h : ValsS W A l) (hb : Below W.heap.size W W') : ValsS W' A l := fun k r hr => by
  obtain ⟨ad, e, hc⟩ := h k r hr
  exact ⟨ad, e, (hb.cell (lt_of_cell hc)).trans hc⟩
theorem SR.vals {W : World} {b : Nat} {A : Option Addr} {l : List Rw} (h : SR W b A l) : ValsS W A l := fun k r hr => by
  obtain ⟨ad, e, hc, _⟩ := h.cell hr
  exact ⟨ad, e, hc⟩
theorem OwnS.ints {W : World} {base : Nat} {v : Value} {l : List Rw} (h : OwnS W base v l) : ∃ A c, v = .slice A l.length c ∧ l.length ≤ c ∧ c ≤ maxLen ∧ ValsS W A l := by
  have h' := h
  rcases h'.2 with ⟨rfl, h2⟩ | ⟨g, cap, cur, rfl, hbg, hg, hnc, hcm, _⟩
  · have : l = [] := List.eq_nil_of_length_eq_zero h2
    subst this
    exact ⟨none, 0, rfl, Nat.le_refl _, by decide, ValsS.nil _ _⟩
  · refine ⟨_, cap, rfl, hnc, hcm, fun k z hz => ⟨_, rfl, h.cells (g := g) rfl k _ ?_⟩⟩
    rw [List.getElem?_map, hz]
    rfl
/-! rows of rows cut and joined -/
theorem sizeIsS (W : World) : (sizeOf (Tryz.prog.elem 35)).run Tryz.prog W = .ok 1 W := by kernel_rfl
theorem front_isS (A : Option Addr) (n c k : Nat) (hnc : n ≤ c) (hk : k ≤ n) :
    ∀ W : World, (Instr.slice 35 (.slice A n c) none (some (.int .i64 (k : Int))) none).run Tryz.prog W = .ok (.slice A k c) W := by
  intro W
  rw [run_slice_h W 35 A n c (by kernel_rfl) .i64 _ (by omega) (by omega), sizeIsS W]
  simp [sliced, Result.andThen]
  intro _
  cases A <;> rfl
theorem ValsS.take' {W : World} {A : Option Addr} {l : List Rw} (h : ValsS W A l) (k : Nat) : ValsS W A (l.take k) := fun j z hz => by
  refine h j z ?_
  by_cases hj : j < k
  · rwa [List.getElem?_take_of_lt hj] at hz
  · rw [List.getElem?_eq_none (by rw [List.length_take]; omega)] at hz; cases hz
theorem ValsS.drop' {W : World} {ad : Addr} {l : List Rw} (h : ValsS W (some ad) l) (k : Nat) : ValsS W (some (ad.add k)) (l.drop k) := fun j z hz => by
  rw [List.getElem?_drop] at hz
  obtain ⟨ad', e, c⟩ := h (k + j) z hz
  obtain rfl := Option.some.inj e
  exact ⟨_, rfl, by rw [add_plus]; exact c⟩
theorem back_isS (A : Option Addr) (n c k : Nat) (hnc : n ≤ c) (hk : k ≤ n) :
    ∃ A' c', (∀ W : World, (Instr.slice 35 (.slice A n c) (some (.int .i64 (k : Int))) none none).run Tryz.prog W = .ok (.slice A' (n - k) c') W) ∧
      ∀ (W : World) (l : List Rw), l.length = n → ValsS W A l → ValsS W A' (l.drop k) := by
  refine ⟨if c = k then A else A.map (·.add k), c - k, fun W => ?_, fun W l hl h => ?_⟩
  · rw [run_slice_l W 35 A n c (by kernel_rfl) .i64 _ (by omega) (by omega), sizeIsS W]
    simp [sliced, Result.andThen]
  · by_cases e : k = n
    · rw [List.drop_eq_nil_of_le (by omega)]
      exact ValsS.nil _ _
    · rw [if_neg (by omega)]
      cases A with
      | none =>
        have : l = [] := by
          cases l with
          | nil => rfl
          | cons z l =>
            obtain ⟨ad, h1, _⟩ := h 0 z rfl
            cases h1
        subst this
        simp only [List.drop_nil]
        exact ValsS.nil _ _
      | some ad => exact h.drop' k
theorem OwnS.lower {W : World} {a b : Nat} {v : Value} {l : List Rw} (h : OwnS W b v l) (hab : a ≤ b) : OwnS W a v l := by
  obtain ⟨h1, h2⟩ := h
  refine ⟨h1, ?_⟩
  rcases h2 with h2 | ⟨g, cap, cur, hv, hg, r⟩
  · exact .inl h2
  · exact .inr ⟨g, cap, cur, hv, Nat.le_trans hab hg, r⟩
/-- an append to a row of numbers of one's own, and where that lies -/
theorem owns_app_at {W : World} {base : Nat} {v : Value} {l : List Rw} (h : OwnS W base v l) (hb : base ≤ W.heap.size) (A : Option Addr) (m c : Nat) (b : List Rw) (hm : b.length = m) (hby : ValsS W A b) (hs : l.length + m ≤ 100000) (M : Nat) (hM : (l ++ b).length = M) :
    ∃ v' w', (Builtin.append_ #[35, 35] 35 #[v, .slice A m c]).run Tryz.prog W = .ok v' w' ∧ (∃ A' c', v' = .slice A' M c') ∧ Hid (OwnS w' base v' (l ++ b) ∧ Below base W w' ∧ (∀ k, k < W.heap.size → v.ownBlock ≠ some k → w'.heap[k]? = W.heap[k]?) ∧ W.heap.size ≤ w'.heap.size ∧ (v'.ownBlock = v.ownBlock ∨ v'.ownBlock = some W.heap.size)) := by
  obtain ⟨i0, hi0, hz0, hz1, hz2⟩ := info_parts3 ints_info
  have hM' : l.length + m = M := by rw [← hM, List.length_append, hm]
  cases A with
  | none =>
    have hl0 : b = [] := by
      cases b with
      | nil => rfl
      | cons z b =>
        obtain ⟨ad, h1, _⟩ := hby 0 z rfl
        cases h1
    subst hl0
    obtain rfl : m = 0 := by simpa using hm.symm
    obtain rfl : l.length = M := by simpa using hM
    rw [List.append_nil]
    obtain ⟨A', c', e, _⟩ := h.ints
    refine ⟨v, W, ?_, ⟨A', c', e⟩, h, Below.refl _ _, fun _ _ _ => rfl, Nat.le_refl _, .inl rfl⟩
    rcases h.2 with ⟨rfl, h0⟩ | ⟨g, cap, cur, rfl, _, _, hnc, _⟩
    · simp [Builtin.append_, run_underlying Tryz.underlying35, sizeOf, typeInfo, hi0, Builtin.lenOf, Builtin.firstCells]
    · simp [Builtin.append_, run_underlying Tryz.underlying35, sizeOf, typeInfo, hi0, Builtin.lenOf, Builtin.firstCells, hnc, storeCells]
  | some ad =>
    obtain ⟨v', w', h1, h2, h3, _, h5⟩ := run_append_own_at (P := Tryz.prog) W base 35 35 29 i0 _ 1 24 Tryz.underlying35 hi0 hz0 hz1 hz2 rfl (by omega) v l.length (l.map Rw.val) h ad m c (b.map Rw.val) (by rw [List.length_map, hm, Nat.mul_one])
      (fun j u hu => by
        rw [List.getElem?_map] at hu
        cases hz : b[j]? with
        | none => rw [hz] at hu; cases hu
        | some z =>
          rw [hz] at hu
          obtain rfl := Option.some.inj hu
          obtain ⟨ad', e, hc⟩ := hby j z hz
          obtain rfl := Option.some.inj e
          exact hc) (by intro x hx; obtain ⟨z, _, rfl⟩ := List.mem_map.1 hx; rfl) (by unfold maxLen; omega) (by omega) hb
    have ho : OwnS w' base v' (l ++ b) := by unfold OwnS; rw [List.length_append, hm, List.map_append]; exact h2
    obtain ⟨A', c', e, _⟩ := ho.ints
    rw [hM] at e
    refine ⟨v', w', h1, ⟨A', c', e⟩, ho, ?_, fun k hk hv => h3.block k hk (fun e => hv e.symm), h3.size, h5⟩
    exact ⟨h3.os, h3.tape, h3.output, h3.size, fun k hk => h3.block k (Nat.lt_of_lt_of_le hk hb) (fun e => by have := (h.lt k e.symm).1; omega)⟩

/-- a row while it is joined, beside one number's that waits, or none yet -/
structure JS (V : World) (xb : Option Nat) (x : Rw) (l : List Rw) (v : Value) (w : World) : Prop where
  own : OwnS w V.heap.size v l
  bel : Below V.heap.size V w
  box : ∀ g, xb = some g → V.heap.size ≤ g ∧ Box w g #[.slice x.A x.m x.c] 29 ∧ v.ownBlock ≠ some g
theorem JS.a (V : World) (x : Rw) : JS V none x [] (.slice (some ⟨V.heap.size, 0, none⟩) 0 0) (V.alloc (.cells #[] 29)).drew :=
  ⟨ownS_none V V.heap.size (Nat.le_refl _), (below_alloc V _).drew, fun g e => by cases e⟩
theorem JS.b (V : World) (x : Rw) : JS V (some (V.heap.size + 1)) x [] (.slice (some ⟨V.heap.size, 0, none⟩) 0 0) ((V.alloc (.cells #[] 29)).alloc (.cells #[.slice x.A x.m x.c] 29)).drew := by
  refine ⟨(ownS_none V V.heap.size (Nat.le_refl _)).below (below_alloc _ _).drew, (below_more (below_alloc V _) _).drew, fun g e => ?_⟩
  obtain rfl := Option.some.inj e
  refine ⟨by omega, ?_, by simp [Value.ownBlock]⟩
  rw [size_one V (.cells #[] 29)]
  exact Box.new (V.alloc (.cells #[] 29)) _ _
theorem JS.c (V : World) (x : Rw) : JS V (some V.heap.size) x [] (.slice (some ⟨V.heap.size + 1, 0, none⟩) 0 0) ((V.alloc (.cells #[.slice x.A x.m x.c] 29)).alloc (.cells #[] 29)).drew := by
  refine ⟨?_, (below_more (below_alloc V _) _).drew, fun g e => ?_⟩
  · rw [size_one V (.cells #[.slice x.A x.m x.c] 29)]
    exact ownS_none (V.alloc (.cells #[.slice x.A x.m x.c] 29)) V.heap.size (below_alloc V _).size
  · obtain rfl := Option.some.inj e
    exact ⟨Nat.le_refl _, (Box.new V _ _).below (below_alloc _ _).drew, by simp [Value.ownBlock]⟩
theorem JS.app {V w : World} {xb : Option Nat} {x : Rw} {l : List Rw} {v : Value} (h : JS V xb x l v w) (A : Option Addr) (m c : Nat) (b : List Rw) (hm : b.length = m) (hby : ValsS V A b) (hs : l.length + m ≤ 100000) (M : Nat) (hM : (l ++ b).length = M) :
    ∃ v' w', (Builtin.append_ #[35, 35] 35 #[v, .slice A m c]).run Tryz.prog w = .ok v' w' ∧ ∃ A' c', v' = .slice A' M c' ∧ Hid (JS V xb x (l ++ b) v' w') := by
  obtain ⟨v', w', h1, ⟨A', c', e⟩, h2⟩ := owns_app_at h.own h.bel.size A m c b hm (hby.below h.bel) hs M hM
  obtain ⟨o1, o2, o3, o4, o5⟩ := h2.out
  refine ⟨v', w', h1, A', c', e, o1, h.bel.trans o2, fun g hg => ?_⟩
  obtain ⟨g1, g2, g3⟩ := h.box g hg
  refine ⟨g1, (o3 g g2.lt g3).trans g2, fun hv => ?_⟩
  rcases o5 with o5 | o5
  · rw [o5] at hv; exact g3 hv
  · rw [o5] at hv
    have := g2.lt
    injection hv with hv
    omega
theorem JS.late {V w : World} {x : Rw} {l : List Rw} {v : Value} (h : JS V none x l v w) : JS V (some w.heap.size) x l v (w.alloc (.cells #[.slice x.A x.m x.c] 29)) := by
  refine ⟨h.own.below (below_alloc _ _), h.bel.alloc h.bel.size _, fun g e => ?_⟩
  obtain rfl := Option.some.inj e
  refine ⟨h.bel.size, Box.new _ _ _, fun hv => ?_⟩
  have := (h.own.lt _ hv).2
  omega
/-- the number is put behind -/
theorem JS.one {V w : World} {g : Nat} {x : Rw} {l : List Rw} {v : Value} (h : JS V (some g) x l v w) (hs : l.length ≤ 50000) (M : Nat) (hM : (l ++ [x]).length = M) :
    ∃ v' w', (Builtin.append_ #[35, 35] 35 #[v, .slice (some ⟨g, 0, none⟩) 1 1]).run Tryz.prog w = .ok v' w' ∧ ∃ A' c', v' = .slice A' M c' ∧ Hid (JS V none x (l ++ [x]) v' w') := by
  obtain ⟨g1, g2, g3⟩ := h.box g rfl
  have hx : ValsS w (some ⟨g, 0, none⟩) [x] := fun k z hz => by
    have hk : k = 0 := by have := (List.getElem?_eq_some_iff.1 hz).1; simp at this; exact this
    subst hk
    exact ⟨_, rfl, by rw [Addr.add_mid, Nat.zero_add]; exact g2.cell 0 _ (by obtain rfl : x = z := (by simpa using hz); rfl)⟩
  obtain ⟨v', w', h1, ⟨A', c', e⟩, h2⟩ := owns_app_at h.own h.bel.size (some ⟨g, 0, none⟩) 1 1 [x] rfl hx (by omega) M hM
  exact ⟨v', w', h1, A', c', e, h2.out.1, h.bel.trans h2.out.2.1, fun g e => by cases e⟩


end Go.Proofs.YtjidelfpmlnhkaaGreat
end
