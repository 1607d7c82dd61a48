/- Bytes that are appended onto a row of the call's own; slices of bytes. -/
import Derived.Test.YthodnmcjgcnbbaaDiskOpen
import Derived.Lib.AppendZerosOnto
import Derived.Deep.RegionHeld3
import Derived.Deep.DrawnRows
namespace Go.Proofs.Ythodnmcjgcnbbaa
open Go.RowKit

theorem ownsRow_slice {w : World} {base : Nat} {e : TypeId} {size n : Nat} {v : Value} {xs : List Value} (h : w.ownsRow base e size v n xs) :
    ∃ A c, v = .slice A n c ∧ n ≤ c ∧ c ≤ maxLen ∧ (∀ F : Nat → Prop, (∀ i, F i → i < base) → CellsIn F w A xs) ∧ (A = none → c = 0) := by
  rcases h.2 with ⟨rfl, rfl⟩ | ⟨g, cap, cur, rfl, hbg, hg, hnc, hcm, _⟩
  · have : xs = [] := List.eq_nil_of_length_eq_zero (by simpa using h.1)
    subst this
    exact ⟨none, 0, rfl, Nat.le_refl _, by decide, fun F _ => CellsIn.nil _ _ _, fun _ => rfl⟩
  · refine ⟨_, cap, rfl, hnc, hcm, fun F hF k u hu => ⟨_, rfl, (Array.getElem?_eq_some_iff.1 hg).1, fun hf => ?_, h.cells (g := g) rfl k u hu⟩, fun h => by cases h⟩
    have := hF g hf
    omega

theorem own_empty (W : World) (base : Nat) (h : base ≤ W.heap.size) (t : TypeId) (size : Nat) : (W.alloc (.cells #[] t)).ownsRow base t size (.slice (some ⟨W.heap.size, 0, none⟩) 0 0) 0 [] :=
  ⟨by simp, .inr ⟨W.heap.size, 0, #[], rfl, h, heap_alloc_new W _, Nat.le_refl _, by decide, by simp, by simp⟩⟩

theorem kept_grown {F : Nat → Prop} {a w w' : World} {base : Nat} {e : TypeId} {size n : Nat} {v : Value} {xs : List Value} (h : Kept F a w) (hown : w.ownsRow base e size v n xs) (hg : w.grownBy w' v.ownBlock) (hb : a.heap.size ≤ base) : Kept F a w' :=
  h.grown hg fun k hk => .inr (by
    rcases hown.2 with ⟨rfl, _⟩ | ⟨g, cap, cur, rfl, hbg, _⟩
    · simp [Value.ownBlock] at hk
    · simp [Value.ownBlock] at hk; omega)

/-- what an append leaves -/
def AppR (w : World) (base : Nat) (v : Value) (n : Nat) (xs : List Value) (v' : Value) (w' : World) : Prop := w'.ownsRow base 5 1 v' n xs ∧ w.grownBy w' v.ownBlock

theorem run_append_bytes (F : Nat → Prop) (w : World) (base : Nat) (ty : TypeId) (v : Value) (n : Nat) (xs : List Value) (hown : w.ownsRow base 5 1 v n xs) (A : Option Addr) (m c : Nat) (l : Dk.Bs) (hl : l.length = m) (hb : BytesIn F w A l)
    (h63 : n + m ≤ 100000000) (hbase : base ≤ w.heap.size) :
    ∃ v' w', (Builtin.append_ #[32, 32] ty #[v, .slice A m c]).run Try.prog w = .ok v' w' ∧ AppR w base v (n + m) (xs ++ l.map bv) v' w' := by
  obtain ⟨i0, hi0, hz0, hz1, hz2⟩ := info_parts3 byte_info
  cases A with
  | none =>
    have hl0 : l = [] := by
      cases l with
      | nil => rfl
      | cons b l =>
        obtain ⟨ad, h1, _⟩ := BytesIn.at_ hb (k := 0) (b := b) rfl
        cases h1
    subst hl0
    obtain rfl : m = 0 := by simpa using hl.symm
    refine ⟨v, w, ?_, by simpa using hown, World.grownBy.refl w _⟩
    rcases hown.2 with ⟨rfl, rfl⟩ | ⟨g, cap, cur, rfl, _, _, hnc, _⟩
    · simp [Builtin.append_, run_underlying Try.underlying32, sizeOf, typeInfo, hi0, Builtin.lenOf, Builtin.firstCells]
    · simp [Builtin.append_, run_underlying Try.underlying32, sizeOf, typeInfo, hi0, Builtin.lenOf, Builtin.firstCells, hnc, storeCells]
  | some ad =>
    obtain ⟨v', w', h1, h2, h3, _⟩ := run_append_own (P := Try.prog) w base 32 ty 5 i0 _ 1 1 Try.underlying32 hi0 hz0 hz1 hz2 rfl (by omega) v n xs hown ad m c (l.map bv) (by rw [List.length_map, hl, Nat.mul_one])
      (fun j u hu => by
        obtain ⟨ad', e, _, _, hc⟩ := hb j u hu
        obtain rfl := Option.some.inj e
        exact hc) (bv_one l) (by unfold maxLen; omega) (by omega) hbase
    exact ⟨v', w', h1, h2, h3⟩

theorem zeroCells_eq (k : Nat) : Builtin.zeroCells (Value.int .u8 0).cells k = ((List.replicate k (0 : UInt8)).map bv).toArray := by
  apply Array.ext
  · rw [size_zeroCells]; simp [Value.cells]
  · intro i h1 h2
    simp [Builtin.zeroCells, Value.cells, bv, Nat.mod_one]

theorem run_append_zeros (w : World) (base : Nat) (ty : TypeId) (v : Value) (n : Nat) (xs : List Value) (hown : w.ownsRow base 5 1 v n xs) (k : Nat) (h63 : n + k ≤ 100000000) (hbase : base ≤ w.heap.size) :
    ∃ v' w', (Builtin.append_ #[32, 3] ty #[v, .int .i64 k]).run Try.prog w = .ok v' w' ∧ AppR w base v (n + k) (xs ++ (List.replicate k (0 : UInt8)).map bv) v' w' := by
  obtain ⟨i0, hi0, hz0, hz1, hz2⟩ := info_parts3 byte_info
  have hw : IntKind.i64.wrap (k : Int) = k := by rw [IntKind.wrap_i64]; omega
  have hw0 : IntKind.i64.wrap (0 : Int) = 0 := by rw [IntKind.wrap_i64]; omega
  have hneg : ¬ ((k : Int) < 0) := by omega
  have h48i : ¬ (281474976710656 < (k : Int)) := by omega
  have hlen : (xs ++ (List.replicate k (0 : UInt8)).map bv).length = (n + k) * 1 := by have := hown.1; simp at this ⊢; omega
  have grown : ∀ (old : Nat) (row : Option Nat), (w.drew.alloc (.cells (xs.toArray ++ Builtin.zeroCells (Value.int .u8 0).cells k ++ Builtin.zeroCells (Value.int .u8 0).cells (grownCap w (n + k) old 5 - (n + k))) 5)).ownsRow base 5 1
        (.slice (some ⟨w.heap.size, 0, none⟩) (n + k) (grownCap w (n + k) old 5)) (n + k) (xs ++ (List.replicate k (0 : UInt8)).map bv) ∧
      w.grownBy (w.drew.alloc (.cells (xs.toArray ++ Builtin.zeroCells (Value.int .u8 0).cells k ++ Builtin.zeroCells (Value.int .u8 0).cells (grownCap w (n + k) old 5 - (n + k))) 5)) row := by
    intro old row
    have hge := grownCap_ge w (n + k) old 5
    have hcm : grownCap w (n + k) old 5 ≤ maxLen := grownCap_le_maxLen w (n + k) old 5 (by unfold maxLen; omega)
    refine ⟨⟨hlen, .inr ⟨w.heap.size, _, _, rfl, hbase, heap_alloc_new w.drew _, hge, hcm, ?_, ?_⟩⟩, ⟨rfl, rfl, rfl, by simp, fun k hk _ => Below.heap_alloc w.drew _ k hk⟩⟩
    · rw [zeroCells_eq, zeroCells_eq]
      have := hown.1
      simp at this ⊢
      omega
    · rw [zeroCells_eq, zeroCells_eq, ← hlen]
      simp only [Array.toList_append, List.append_assoc]
      rw [← List.append_assoc]
      exact List.take_left
  rcases hown.2 with ⟨rfl, rfl⟩ | ⟨g, cap, cur, rfl, hbg, hg, hnc, hcm, hcs, htake⟩
  · have hx : xs = [] := List.eq_nil_of_length_eq_zero (by simpa using hown.1)
    subst hx
    by_cases hk : k = 0
    · subst hk
      refine ⟨.slice none 0 0, w, ?_, by simpa using World.ownsRow_nil w base 5 1, ⟨rfl, rfl, rfl, Nat.le_refl _, fun _ _ _ => rfl⟩⟩
      simp [Builtin.append_, run_underlying Try.underlying32, run_underlying Try.underlying3, sizeOf, typeInfo, hi0, asInt, asIntOf, hz2, hw0]
    · have hr := Lib.run_append_nil_zeros (P := Try.prog) w 32 3 ty 5 i0 _ .i64 .i64 Try.underlying32 Try.underlying3 hi0 hz0 k (by omega) (by omega) (by omega) (by rw [hz2]; omega)
      have hgr := grown 0 (Value.ownBlock (.slice none 0 0))
      simp only [Nat.zero_add, List.nil_append, Array.empty_append] at hgr ⊢
      exact ⟨_, _, hr, hgr.1, hgr.2⟩
  · by_cases hroom : n + k ≤ cap
    · have hfit : n + k ≤ cur.size := by omega
      have hst := run_storeCells_at Try.prog g n 5 ((List.replicate k (0 : UInt8)).map bv) 0 cur w hg (by simp; omega) (bv_one _)
      refine ⟨.slice (some ⟨g, 0, none⟩) (n + k) cap, w.setRow g (cur.toList.take n ++ (List.replicate k (0 : UInt8)).map bv ++ cur.toList.drop (n + k)).toArray, ?_,
        ⟨hlen, .inr ⟨g, cap, _, rfl, hbg, setRow_heap w g cur _ 5 _ hg, hroom, hcm, ?_, ?_⟩⟩, ⟨rfl, rfl, rfl, by simp, fun k _ hk => setRow_other w g k _ (fun e => hk (by simp [Value.ownBlock, e]))⟩⟩
      · by_cases hk : k = 0
        · subst hk
          simp [Builtin.append_, run_underlying Try.underlying32, run_underlying Try.underlying3, sizeOf, typeInfo, hi0, asInt, asIntOf, hz2, hw0, storeCells, hnc]
          rw [setRow_self w g cur 5 (0, 0) hg]
        · have hadd : (⟨g, 0, none⟩ : Addr).add n = ⟨g, n, none⟩ := by rw [Addr.add_mid, Nat.zero_add]
          have hk1 : ¬ (k * 1 = 0) := by omega
          simp [Builtin.append_, run_underlying Try.underlying32, run_underlying Try.underlying3, sizeOf, typeInfo, zeroValue, hi0, hz0, hz1, asInt, asIntOf, hz2, hw, hneg, h48i, hk, hroom, zeroCells_eq, hadd]
          simp at hst
          simp [hst]
      · simp; omega
      · rw [Nat.mul_one] at htake
        rw [htake, ← hlen]
        exact List.take_left
    · have holds : ∀ j u, xs[j]? = some u → w.cell? ((⟨g, 0, none⟩ : Addr).add j) = some u := hown.cells (g := g) rfl
      have hfc : (Builtin.firstCells i0.size n (.slice (some ⟨g, 0, none⟩) n cap)).run Try.prog w.drew = .ok xs.toArray w.drew := by
        have hl := run_loadCells_list (P := Try.prog) w.drew ⟨g, 0, none⟩ xs holds
        have e : xs.length = n := by simpa using hown.1
        rw [e] at hl
        simp [Builtin.firstCells, hz1, hl]
      have hr := Lib.run_append_grow_zeros (P := Try.prog) w 32 3 ty 5 i0 _ .i64 .i64 Try.underlying32 Try.underlying3 hi0 hz0 (some ⟨g, 0, none⟩) n cap xs hfc k (by omega) (by omega) (by omega) (by omega) (by rw [hz2]; omega) (growslice_fits (by omega) (by rw [hz2]; omega))
      have hgr := grown cap (Value.ownBlock (.slice (some ⟨g, 0, none⟩) n cap))
      exact ⟨_, _, hr, hgr.1, hgr.2⟩

/-- an append as one step of a region that draws -/
theorem step_append_run {P : Program} {w : World} {ops : Array Oper} {o : Oper} {a : Act} {K : Act → World → Prop} {Q : Exit → Act → World → Prop} {E : Prop} (hgd : o.guard = none) (s x : Operand) (t tn : TypeId)
    (ho : o.op = .call { callee := .builtin .append, args := #[s, x], argTypes := #[t, tn] }) (vs vx : Value) (hs : a.eval s = vs) (hx : a.eval x = vx)
    (R : Value → World → Prop) (hr : ∃ v' w', (Builtin.append_ #[t, tn] o.type #[vs, vx]).run P w = .ok v' w' ∧ R v' w')
    (h : ∀ v' w', R v' w' → K (a.put o.dst v') w') : if Region.wanted o (yielded ops a.tmps) = true then Oper.wp P o a w K Q else E := by
  have hw : Region.wanted o (yielded ops a.tmps) = true := by simp [Region.wanted, hgd]
  rw [if_pos hw]
  obtain ⟨v', w', hr, h2⟩ := hr
  unfold Oper.wp execOp
  simp only [ho, resolve, invoke, builtin, Sem.run_bind, Sem.run_pure, Result.andThen_ok, List.map_toArray, List.map_cons, List.map_nil, hs, hx, hr]
  exact h v' w' h2
theorem wpList_append_any {P : Program} {w : World} {ops : Array Oper} {rest : List Oper} {o : Oper} {a : Act} {Q : Exit → Act → World → Prop} (hgd : o.guard = none) (s x : Operand) (t tn : TypeId)
    (ho : o.op = .call { callee := .builtin .append, args := #[s, x], argTypes := #[t, tn] }) (vs vx : Value) (hs : a.eval s = vs) (hx : a.eval x = vx)
    (R : Value → World → Prop) (hr : ∃ v' w', (Builtin.append_ #[t, tn] o.type #[vs, vx]).run P w = .ok v' w' ∧ R v' w')
    (h : ∀ v' w', R v' w' → wpList P ops Q rest (a.put o.dst v') w') : wpList P ops Q (o :: rest) a w := by
  obtain ⟨v', w', hr, h2⟩ := hr
  exact Lib.wpList_append_run w hgd s x t tn ho vs vx hs hx v' w' hr (h v' w' h2)

theorem size5 (W : World) : (sizeOf (Try.prog.elem 32)).run Try.prog W = .ok 1 W := by kernel_rfl

/-- b[:k] and b[k:], of bytes -/
theorem slice_front (A : Option Addr) (n c k : Nat) (hnc : n ≤ c) (hk : k ≤ n) :
    ∀ W : World, (Instr.slice 32 (.slice A n c) none (some (.int .i64 (k : Int))) none).run Try.prog W = .ok (.slice A k c) W := by
  intro W
  rw [run_slice_h W 32 A n c (by kernel_rfl) .i64 _ (by omega) (by omega), size5 W]
  simp [sliced, Result.andThen]
  intro _
  cases A <;> rfl
theorem slice_back (A : Option Addr) (n c k : Nat) (hnc : n ≤ c) (hk : k ≤ n) :
    ∃ A' c', (∀ W : World, (Instr.slice 32 (.slice A n c) (some (.int .i64 (k : Int))) none none).run Try.prog W = .ok (.slice A' (n - k) c') W) ∧
      ∀ (F : Nat → Prop) (W : World) (l : Dk.Bs), l.length = n → BytesIn F W A l → BytesIn F W A' (l.drop k) := by
  refine ⟨if c = k then A else A.map (·.add k), c - k, fun W => ?_, fun F W l hl h => ?_⟩
  · rw [run_slice_l W 32 A n c (by kernel_rfl) .i64 _ (by omega) (by omega), size5 W]
    simp [sliced, Result.andThen]
  · by_cases e : k = n
    · rw [List.drop_eq_nil_of_le (by omega)]
      exact CellsIn.nil _ _ _
    · rw [if_neg (by omega)]
      cases A with
      | none =>
        have : l = [] := by
          cases l with
          | nil => rfl
          | cons b l =>
            obtain ⟨ad, h1, _⟩ := BytesIn.at_ h (k := 0) (b := b) rfl
            cases h1
        subst this
        simp only [List.drop_nil]
        exact CellsIn.nil _ _ _
      | some ad =>
        unfold BytesIn at h ⊢
        rw [List.map_drop]
        exact CellsIn.drop h k

/-- bytes that the call has appended onto a row of its own; and thirty-two of them -/
def Fill1 (W : World) (m : Nat) (l : Dk.Bs) (v' : Value) (w' : World) : Prop := w'.ownsRow W.heap.size 5 1 v' m (l.map bv) ∧ Kept No W w'
def Fill2 (W : World) (l : Dk.Bs) (v' : Value) (w' : World) : Prop :=
  ∃ A c, v' = .slice A 32 c ∧ 32 ≤ c ∧ c ≤ maxLen ∧ (∀ F : Nat → Prop, (∀ i, F i → i < W.heap.size) → BytesIn F w' A l) ∧ Kept No W w'

theorem fill_app1 (F : Nat → Prop) (W : World) (A : Option Addr) (m cap : Nat) (l : Dk.Bs) (hl : l.length = m) (hm : m ≤ 32) (hb : BytesIn F W A l) :
    ∃ v' w', (Builtin.append_ #[32, 32] 32 #[.slice (some ⟨W.heap.size, 0, none⟩) 0 0, .slice A m cap]).run Try.prog (W.alloc (.cells #[] 5)) = .ok v' w' ∧ Fill1 W m l v' w' := by
  have hown := own_empty W W.heap.size (Nat.le_refl _) 5 1
  obtain ⟨v', w', h1, h2, h3⟩ := run_append_bytes F (W.alloc (.cells #[] 5)) W.heap.size 32 _ 0 [] hown A m cap l hl (CellsIn.keep hb ((Kept.refl F W).alloc _)) (by omega) (by simp)
  rw [Nat.zero_add, List.nil_append] at h2
  exact ⟨v', w', h1, h2, kept_grown ((Kept.refl No W).alloc _) hown h3 (Nat.le_refl _)⟩

theorem fill_two {W w4 w' : World} {m k : Nat} {l l' : Dk.Bs} {v1 v' : Value} (h : Fill1 W m l v1 w4) (hr : AppR w4 W.heap.size v1 (m + k) (l.map bv ++ l'.map bv) v' w') (hk : m + k = 32) : Fill2 W (l ++ l') v' w' := by
  obtain ⟨h1, h2⟩ := hr
  rw [hk, ← List.map_append] at h1
  obtain ⟨A, c, e, hc1, hc2, hb, _⟩ := ownsRow_slice h1
  exact ⟨A, c, e, hc1, hc2, hb, kept_grown h.2 h.1 h2 (Nat.le_refl _)⟩

theorem fill_app2 {W w4 : World} {m : Nat} {l : Dk.Bs} {v1 : Value} (h : Fill1 W m l v1 w4) (hm : m ≤ 32) :
    ∃ v' w', (Builtin.append_ #[32, 3] 32 #[v1, .int .i64 (32 - (m : Int))]).run Try.prog w4 = .ok v' w' ∧ Fill2 W (l ++ List.replicate (32 - m) 0) v' w' := by
  have e : (32 : Int) - (m : Int) = ((32 - m : Nat) : Int) := by omega
  rw [e]
  obtain ⟨v', w', h1, h2⟩ := run_append_zeros w4 W.heap.size 32 v1 m (l.map bv) h.1 (32 - m) (by omega) h.2.size
  exact ⟨v', w', h1, fill_two h h2 (by omega)⟩

theorem join_app2 {W w4 : World} {m : Nat} {l : Dk.Bs} {v1 : Value} (h : Fill1 W m l v1 w4) (F : Nat → Prop) (A : Option Addr) (k cap : Nat) (l' : Dk.Bs) (hl : l'.length = k) (hmk : m + k = 32) (hb : BytesIn F w4 A l') :
    ∃ v' w', (Builtin.append_ #[32, 32] 32 #[v1, .slice A k cap]).run Try.prog w4 = .ok v' w' ∧ Fill2 W (l ++ l') v' w' := by
  obtain ⟨v', w', h1, h2⟩ := run_append_bytes F w4 W.heap.size 32 v1 m (l.map bv) h.1 A k cap l' hl hb (by omega) h.2.size
  exact ⟨v', w', h1, fill_two h h2 hmk⟩

theorem fill_eq (l : Dk.Bs) : Dk.fill l = l ++ List.replicate (32 - l.length) 0 := by
  unfold Dk.fill splice
  rw [List.take_zero, List.nil_append, Nat.zero_add, List.drop_replicate]

theorem xcells {F : Nat → Prop} {w : World} {xb : Nat} {x : Ox} (h : CellsIn F w (some ⟨xb, 0, none⟩) (oc x)) :
    w.cell? ⟨xb, 0, none⟩ = some (.int .i64 x.o) ∧ w.cell? ⟨xb, 1, none⟩ = some (.int .i64 x.a) ∧ w.cell? ⟨xb, 2, none⟩ = some (.int .i64 x.c) ∧ w.cell? ⟨xb, 3, none⟩ = some (.slice x.A x.m x.cap) := by
  have hc : ∀ (i : Nat) (u : Value), (oc x)[i]? = some u → w.cell? ⟨xb, i, none⟩ = some u := by
    intro i u hu
    obtain ⟨ad, e, _, _, hcell⟩ := h i u hu
    obtain rfl := Option.some.inj e
    rw [Addr.add_mid, Nat.zero_add] at hcell
    exact hcell
  exact ⟨hc 0 _ rfl, hc 1 _ rfl, hc 2 _ rfl, hc 3 _ rfl⟩
theorem xcells_new {g s : Nat} (W : World) (x : Ox) (hg : g < W.heap.size) (hs : s < W.heap.size) : CellsIn (Two g s) (W.alloc (.cells #[.int .i64 x.o, .int .i64 x.a, .int .i64 x.c, .slice x.A x.m x.cap] 34)) (some ⟨W.heap.size, 0, none⟩) (oc x) :=
  CellsIn.of_block (cs := oc x) (heap_alloc_new W _) (by rintro (e | e) <;> omega)
theorem mine_sub {W : World} {g s n : Nat} {d : Dk.D} (h : DiskAt W g s n d) : ∀ i, Two g s i → i < W.heap.size := by
  have h1 := h.ltg
  have h2 := h.lts
  rintro i (e | e) <;> omega
theorem int_eq {a b : Int} (h : a = b) : Value.int .i64 a = .int .i64 b := by rw [h]
theorem bsame_true (F : Nat → Prop) (A B : Option Addr) (c d : Nat) (l : Dk.Bs) (n : Nat) (w : World) (hl : l.length = n) (hn : n ≤ 100000) (ha : BytesIn F w A l) (hb : BytesIn F w B l) :
    Calls Try.prog 17 #[.slice A n c, .slice B n d] w fun e w' => e = .returned (.bool true) ∧ ∃ q, w' = w.drewN q := by
  have := bsame_any F A B n n c d l l w hl hl (by unfold maxLen; omega) (by unfold maxLen; omega) ha hb
  rw [decide_eq_true rfl] at this
  exact this
theorem bsame_false (F : Nat → Prop) (A B : Option Addr) (c d : Nat) (l m : Dk.Bs) (n : Nat) (w : World) (hl : l.length = n) (hm : m.length = n) (hne : l ≠ m) (hn : n ≤ 100000) (ha : BytesIn F w A l) (hb : BytesIn F w B m) :
    Calls Try.prog 17 #[.slice A n c, .slice B n d] w fun e w' => e = .returned (.bool false) ∧ ∃ q, w' = w.drewN q := by
  have := bsame_any F A B n n c d l m w hl hm (by unfold maxLen; omega) (by unfold maxLen; omega) ha hb
  rw [decide_eq_false hne] at this
  exact this

end Go.Proofs.Ythodnmcjgcnbbaa
