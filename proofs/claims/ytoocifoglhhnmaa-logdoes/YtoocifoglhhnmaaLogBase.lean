/- What rounds 2 to 4 have laid of disks, bytes and rows, as the log's contracts use it. -/
import Derived.Test.YtoocifoglhhnmaaDiskC
import Derived.Test.YtoocifoglhhnmaaLogMath
import Derived.Test.YtoocifoglhhnmaaLogCrc
import Derived.Lib.SlBytesConst
import Derived.Lib.AppendZerosOnto
import Derived.Deep.RegionHeld3
import Derived.Deep.DrawnRows
namespace Go.Proofs.Ytoocifoglhhnmaa
open Go.RowKit
set_option linter.unusedVariables false

theorem u8_ne {x y : UInt8} (h : x ≠ y) : ((x.toNat : Int)) ≠ (y.toNat : Int) := fun e => h (UInt8.toNat_inj.1 (by omega))

set_option maxHeartbeats 2000000 in
set_option maxRecDepth 100000 in
theorem bsame_any (F : Nat → Prop) (A B : Option Addr) (n m c d : Nat) (a b : Dk.Bs) (w : World) (hn : a.length = n) (hm : b.length = m) (hn' : n ≤ maxLen) (hm' : m ≤ maxLen) (ha : BytesIn F w A a) (hb : BytesIn F w B b) :
    Calls Try.prog 53 #[.slice A n c, .slice B m d] w fun e w' => e = .returned (.bool (decide (a = b))) ∧ ∃ q, w' = w.drewN q := by
  unfold maxLen at hn' hm'
  have HA := Lib.hid ha
  have HB := Lib.hid hb
  have HN := Lib.hid hn
  have HM := Lib.hid hm
  clear ha hb hn hm
  by_cases hnm : n = m
  · subst hnm
    have HR : Hid (∀ k : Nat, (∀ i : Nat, i < k → a[i]? = b[i]?) → n ≤ k → decide (a = b) = true) := fun k h hk => decide_eq_true (List.ext_getElem? fun i => by
      by_cases hi : i < k
      · exact h i hi
      · rw [List.getElem?_eq_none (by rw [HN.out]; omega), List.getElem?_eq_none (by rw [HM.out]; omega)])
    have HF : Hid (∀ k : Nat, a[k]? ≠ b[k]? → decide (a = b) = false) := fun k h => decide_eq_false (fun e => h (by rw [e]))
    generalize decide (a = b) = r at *
    go_enter Try.func53, Try.ntmps53
    go_wp2
    go_loopg [4, 5] n (fun gk s4 s5 W => ∃ (k q : Nat), k + gk = n ∧ s4 = .bool false ∧ s5 = .int .i64 k ∧ W = w.drewN q ∧ Hid (∀ i : Nat, i < k → a[i]? = b[i]?))
    case atStart => exact ⟨0, 0, by omega, rfl, rfl, rfl, fun i hi => by omega⟩
    case round =>
      obtain ⟨k, q, hkg, rfl, rfl, rfl, HK⟩ := hrel
      by_cases hlt : k < n
      · obtain ⟨gk, rfl⟩ : ∃ j, gk = j + 1 := ⟨gk - 1, by omega⟩
        obtain ⟨x, hx⟩ := some_at a k (by rw [HN.out]; exact hlt)
        obtain ⟨y, hy⟩ := some_at b k (by rw [HM.out]; exact hlt)
        obtain ⟨ad, rfl, _, _, hc1⟩ := BytesIn.at_ (w := w.drewN q) HA.out hx
        obtain ⟨bd, rfl, _, _, hd1⟩ := BytesIn.at_ (w := w.drewN q) HB.out hy
        have i1 : (0 : Int) ≤ (k : Int) := by omega
        have i2 : (k : Int) < (n : Int) := by omega
        have HW : Hid (∀ m, (w.drewN q).drewN m = w.drewN (q + m)) := fun m => by simp
        by_cases hxy : x = y
        · have heq : ((x.toNat : Int) != (y.toNat : Int)) = false := by rw [hxy]; simp
          have HK2 : Hid (∀ i : Nat, i < k + 1 → a[i]? = b[i]?) := fun i hi => by
            by_cases h : i < k
            · exact HK.out i h
            · obtain rfl : i = k := by omega
              rw [hx, hy, hxy]
          clear hx hy hxy
          generalize w.drewN q = W at *
          go_wp2
          go_quiet (fail)
          go_wp2
          go_roundg gk
          case measure => omega
          case rel => exact ⟨k + 1, _, by omega, rfl, by first | rfl | go_num, HW.out _, HK2.out⟩
        · have heq : ((x.toNat : Int) != (y.toNat : Int)) = true := bne_iff_ne.2 (u8_ne hxy)
          have HF2 := Lib.hid (HF.out k (by rw [hx, hy]; exact fun e => hxy (Option.some.inj e)))
          clear hx hy hxy
          generalize w.drewN q = W at *
          go_wp2
          go_quiet (fail)
          go_wp2
          go_ret
          exact ⟨by rw [HF2.out]; rfl, _, HW.out _⟩
      · have HR2 := Lib.hid (HR.out k HK.out (by omega))
        have hk : k = n := by omega
        subst hk
        go_wp2
        go_ret
        exact ⟨by rw [HR2.out]; rfl, _, rfl⟩
  · have HF : Hid (decide (a = b) = false) := decide_eq_false (fun e => hnm (by rw [← HN.out, ← HM.out, e]))
    have d1 : ((n : Int) != (m : Int)) = true := bne_iff_ne.2 (by omega)
    generalize decide (a = b) = r at *
    clear hnm
    go_enter Try.func53, Try.ntmps53
    go_wp2
    go_ret
    exact ⟨by rw [HF.out]; rfl, 0, rfl⟩

/-- The law began in w; its disk, made since, is d now. -/
structure Run (w : World) (g s n : Nat) (W : World) (d : Dk.D) : Prop where
  at_ : DiskAt W g s n d
  bel : Below w.heap.size w W
  hg : w.heap.size ≤ g
  hs : w.heap.size ≤ s

theorem Run.step {w W W' : World} {g s n : Nat} {d d' : Dk.D} (h : Run w g s n W d) (h1 : DiskAt W' g s n d') (hk : Kept (Two g s) W W') : Run w g s n W' d' :=
  ⟨h1, hk.below h.bel h.bel.size (fun i hi e => by
    have h1 := h.hg
    have h2 := h.hs
    rcases e with rfl | rfl <;> omega), h.hg, h.hs⟩
theorem Run.below {w W W' : World} {g s n : Nat} {d : Dk.D} (h : Run w g s n W d) (hb : Below W.heap.size W W') : Run w g s n W' d :=
  ⟨h.at_.keep (F := No) (Kept.of_below hb) id id, h.bel.trans (hb.mono h.bel.size), h.hg, h.hs⟩
theorem Run.alloc {w W : World} {g s n : Nat} {d : Dk.D} (h : Run w g s n W d) (o : Obj) : Run w g s n (W.alloc o) d := h.below ((Below.refl _ _).alloc (Nat.le_refl _) o)
theorem Run.drewN {w W : World} {g s n : Nat} {d : Dk.D} (h : Run w g s n W d) (q : Nat) : Run w g s n (W.drewN q) d := h.below ⟨rfl, rfl, rfl, Nat.le_refl _, fun _ _ => rfl⟩

theorem run_write {w W : World} {g s n : Nat} {d : Dk.D} (h : Run w g s n W d) (k : Int) (A : Option Addr) (m c : Nat) (l : Dk.Bs) (hw : d.writes ≤ 1000000) (hm : l.length = m) (hmx : m ≤ maxLen) (hb : BytesIn (Two g s) W A l) (q : Int) (d' : Dk.D) (hq : Dk.wcode n d k l = q) (hd : Dk.wstate n d k l = d') :
    Calls Try.prog 74 #[.pointer (some ⟨g, 0, none⟩), .int .i64 k, .slice A m c] W fun e w' => e = .returned (.int .i64 q) ∧ Run w g s n w' d' ∧ Kept (Two g s) W w' := by
  subst hq hd
  exact (write_any g s n d k A m c l W h.at_ hw hm hmx hb).mono fun _ _ ⟨he, h1, hk⟩ => ⟨he, h.step h1 hk, hk⟩
theorem run_fuse {w W : World} {g s n : Nat} {d : Dk.D} (h : Run w g s n W d) (a c : Int) (h0 : -9223372036854775808 ≤ a) (h1 : a ≤ 9223372036854775807) (d' : Dk.D) (hd : Dk.fuseTo d a c = d') :
    Calls Try.prog 12 #[.pointer (some ⟨g, 0, none⟩), .int .i64 a, .int .i64 c] W fun e w' => e = .returned (.tuple #[]) ∧ Run w g s n w' d' ∧ Kept (Two g s) W w' := by
  subst hd
  exact (fuse_any g s n d a c W h.at_ h0 h1).mono fun _ _ ⟨he, h1, hk⟩ => ⟨he, h.step h1 hk, hk⟩
theorem run_crash {w W : World} {g s n : Nat} {d : Dk.D} (h : Run w g s n W d) (d' : Dk.D) (hd : Dk.crash d = d') :
    Calls Try.prog 21 #[.pointer (some ⟨g, 0, none⟩)] W fun e w' => e = .returned (.tuple #[]) ∧ Run w g s n w' d' ∧ Kept (Two g s) W w' := by
  subst hd
  exact (crash_any g s n d W h.at_).mono fun _ _ ⟨he, h1, hk⟩ => ⟨he, h.step h1 hk, hk⟩
theorem run_turn {w W : World} {g s n : Nat} {d : Dk.D} (h : Run w g s n W d) (k : Int) (y : UInt8) (hk : k ≤ 9223372036854775807) (q : Int) (d' : Dk.D) (hq : Dk.tcode n k = q) (hd : Dk.tstate n d k y = d') :
    Calls Try.prog 14 #[.pointer (some ⟨g, 0, none⟩), .int .i64 k, .int .u8 (y.toNat : Int)] W fun e w' => e = .returned (.int .i64 q) ∧ Run w g s n w' d' ∧ Kept (Two g s) W w' := by
  subst hq hd
  exact (turn_any g s n d k y W h.at_ hk).mono fun _ _ ⟨he, h1, hk⟩ => ⟨he, h.step h1 hk, hk⟩

theorem run_read {w W : World} {g s n : Nat} {d : Dk.D} (h : Run w g s n W d) (j : Nat) (hj : j < n) :
    Calls Try.prog 29 #[.pointer (some ⟨g, 0, none⟩), .int .i64 j] W fun e w' => e = .returned (.tuple #[.slice (some ⟨W.heap.size, 0, none⟩) 32 32, .int .i64 0]) ∧ BytesIn (Two g s) w' (some ⟨W.heap.size, 0, none⟩) (Dk.sec d.b j) ∧ Run w g s n w' d ∧ Below W.heap.size W w' := by
  refine (read_ok g s n d j W h.at_ hj).mono fun _ w' ⟨he, hrow, hb⟩ => ⟨he, CellsIn.of_block hrow ?_, h.below hb, hb⟩
  have h1 := h.at_.ltg
  have h2 := h.at_.lts
  rintro (e | e) <;> omega
theorem run_new (n : Nat) (w W : World) (hb : Below w.heap.size w W) (h0 : 2 ≤ n) (h1 : n ≤ 4096) :
    Calls Try.prog 8 #[.int .i64 n] W fun e w' => ∃ g s, e = .returned (.tuple #[.pointer (some ⟨g, 0, none⟩), .int .i64 0]) ∧ Run w g s n w' (Dk.fresh n) ∧ Below W.heap.size W w' :=
  (new_ok n W h0 h1).mono fun _ w' ⟨he, hd, hb'⟩ => ⟨_, _, he, ⟨hd, hb.trans (hb'.mono hb.size), by have := hb.size; omega, hb.size⟩, hb'⟩

theorem bytes_new {w W : World} {g s n : Nat} {d : Dk.D} (h : Run w g s n W d) (l : Dk.Bs) (fr : Nat × Nat) : BytesIn (Two g s) (W.alloc (.cells (l.map bv).toArray 5 fr)) (some ⟨W.heap.size, 0, none⟩) l := by
  refine CellsIn.of_block (heap_alloc_new W _) ?_
  have h1 := h.at_.ltg
  have h2 := h.at_.lts
  rintro (e | e) <;> omega

theorem conv_str (F : Nat → Prop) (w : World) (A : Option Addr) (l : Dk.Bs) (c : Nat) (h : BytesIn F w A l) :
    (convert 38 9 (.slice A l.length c)).run Try.prog w = .ok (.string ⟨l.toArray⟩) w := by
  cases A with
  | none =>
    have : l = [] := by
      cases l with
      | nil => rfl
      | cons b l =>
        obtain ⟨ad, h1, _⟩ := BytesIn.at_ h (k := 0) (b := b) rfl
        cases h1
    subst this
    show (convert 38 9 (.slice none 0 c)).run Try.prog w = _
    rw [run_convert_bytes_string w _ _ _ none 0 c Try.underlying38 Try.underlying5 Try.underlying9]
    simp [Conv.bytesToString]
    rfl
  | some ad =>
    refine run_convert_bytes_back (P := Try.prog) w 38 9 5 ad c l Try.underlying38 Try.underlying5 Try.underlying9 ?_
    intro j hj
    obtain ⟨ad', h1, _, _, hcell⟩ := BytesIn.at_ h (List.getElem?_eq_getElem hj)
    obtain rfl := Option.some.inj h1
    exact hcell

theorem ownsRow_slice {w : World} {base : Nat} {e : TypeId} {size n : Nat} {v : Value} {xs : List Value} (h : w.ownsRow base e size v n xs) :
    ∃ A c, v = .slice A n c ∧ n ≤ c ∧ c ≤ maxLen ∧ (∀ F : Nat → Prop, (∀ i, F i → i < base) → CellsIn F w A xs) ∧ (A = none → c = 0) := by
  rcases h.2 with ⟨rfl, rfl⟩ | ⟨g, cap, cur, rfl, hbg, hg, hnc, hcm, _⟩
  · have : xs = [] := List.eq_nil_of_length_eq_zero (by simpa using h.1)
    subst this
    exact ⟨none, 0, rfl, Nat.le_refl _, by decide, fun F _ => CellsIn.nil _ _ _, fun _ => rfl⟩
  · refine ⟨_, cap, rfl, hnc, hcm, fun F hF k u hu => ⟨_, rfl, (Array.getElem?_eq_some_iff.1 hg).1, fun hf => ?_, h.cells (g := g) rfl k u hu⟩, fun h => by cases h⟩
    have := hF g hf
    omega

theorem own_empty (W : World) (base : Nat) (h : base ≤ W.heap.size) (t : TypeId) (size : Nat) : (W.alloc (.cells #[] t)).ownsRow base t size (.slice (some ⟨W.heap.size, 0, none⟩) 0 0) 0 [] :=
  ⟨by simp, .inr ⟨W.heap.size, 0, #[], rfl, h, heap_alloc_new W _, Nat.le_refl _, by decide, by simp, by simp⟩⟩

theorem kept_grown {F : Nat → Prop} {a w w' : World} {base : Nat} {e : TypeId} {size n : Nat} {v : Value} {xs : List Value} (h : Kept F a w) (hown : w.ownsRow base e size v n xs) (hg : w.grownBy w' v.ownBlock) (hb : a.heap.size ≤ base) : Kept F a w' :=
  h.grown hg fun k hk => .inr (by
    rcases hown.2 with ⟨rfl, _⟩ | ⟨g, cap, cur, rfl, hbg, _⟩
    · simp [Value.ownBlock] at hk
    · simp [Value.ownBlock] at hk; omega)

/-- what an append leaves -/
def AppR (w : World) (base : Nat) (v : Value) (n : Nat) (xs : List Value) (v' : Value) (w' : World) : Prop := w'.ownsRow base 5 1 v' n xs ∧ w.grownBy w' v.ownBlock

theorem run_append_bytes (F : Nat → Prop) (w : World) (base : Nat) (ty : TypeId) (v : Value) (n : Nat) (xs : List Value) (hown : w.ownsRow base 5 1 v n xs) (A : Option Addr) (m c : Nat) (l : Dk.Bs) (hl : l.length = m) (hb : BytesIn F w A l)
    (h63 : n + m ≤ 100000000) (hbase : base ≤ w.heap.size) :
    ∃ v' w', (Builtin.append_ #[38, 38] ty #[v, .slice A m c]).run Try.prog w = .ok v' w' ∧ AppR w base v (n + m) (xs ++ l.map bv) v' w' := by
  obtain ⟨i0, hi0, hz0, hz1, hz2⟩ := info_parts3 byte_info
  cases A with
  | none =>
    have hl0 : l = [] := by
      cases l with
      | nil => rfl
      | cons b l =>
        obtain ⟨ad, h1, _⟩ := BytesIn.at_ hb (k := 0) (b := b) rfl
        cases h1
    subst hl0
    obtain rfl : m = 0 := by simpa using hl.symm
    refine ⟨v, w, ?_, by simpa using hown, World.grownBy.refl w _⟩
    rcases hown.2 with ⟨rfl, rfl⟩ | ⟨g, cap, cur, rfl, _, _, hnc, _⟩
    · simp [Builtin.append_, run_underlying Try.underlying38, sizeOf, typeInfo, hi0, Builtin.lenOf, Builtin.firstCells]
    · simp [Builtin.append_, run_underlying Try.underlying38, sizeOf, typeInfo, hi0, Builtin.lenOf, Builtin.firstCells, hnc, storeCells]
  | some ad =>
    obtain ⟨v', w', h1, h2, h3, _⟩ := run_append_own (P := Try.prog) w base 38 ty 5 i0 _ 1 1 Try.underlying38 hi0 hz0 hz1 hz2 rfl (by omega) v n xs hown ad m c (l.map bv) (by rw [List.length_map, hl, Nat.mul_one])
      (fun j u hu => by
        obtain ⟨ad', e, _, _, hc⟩ := hb j u hu
        obtain rfl := Option.some.inj e
        exact hc) (bv_one l) (by unfold maxLen; omega) (by omega) hbase
    exact ⟨v', w', h1, h2, h3⟩

/-- an append as one step of a region that draws -/
theorem step_append_run {P : Program} {w : World} {ops : Array Oper} {o : Oper} {a : Act} {K : Act → World → Prop} {Q : Exit → Act → World → Prop} {E : Prop} (hgd : o.guard = none) (s x : Operand) (t tn : TypeId)
    (ho : o.op = .call { callee := .builtin .append, args := #[s, x], argTypes := #[t, tn] }) (vs vx : Value) (hs : a.eval s = vs) (hx : a.eval x = vx)
    (R : Value → World → Prop) (hr : ∃ v' w', (Builtin.append_ #[t, tn] o.type #[vs, vx]).run P w = .ok v' w' ∧ R v' w')
    (h : ∀ v' w', R v' w' → K (a.put o.dst v') w') : if Region.wanted o (yielded ops a.tmps) = true then Oper.wp P o a w K Q else E := by
  have hw : Region.wanted o (yielded ops a.tmps) = true := by simp [Region.wanted, hgd]
  rw [if_pos hw]
  obtain ⟨v', w', hr, h2⟩ := hr
  unfold Oper.wp execOp
  simp only [ho, resolve, invoke, builtin, Sem.run_bind, Sem.run_pure, Result.andThen_ok, List.map_toArray, List.map_cons, List.map_nil, hs, hx, hr]
  exact h v' w' h2
theorem wpList_append_any {P : Program} {w : World} {ops : Array Oper} {rest : List Oper} {o : Oper} {a : Act} {Q : Exit → Act → World → Prop} (hgd : o.guard = none) (s x : Operand) (t tn : TypeId)
    (ho : o.op = .call { callee := .builtin .append, args := #[s, x], argTypes := #[t, tn] }) (vs vx : Value) (hs : a.eval s = vs) (hx : a.eval x = vx)
    (R : Value → World → Prop) (hr : ∃ v' w', (Builtin.append_ #[t, tn] o.type #[vs, vx]).run P w = .ok v' w' ∧ R v' w')
    (h : ∀ v' w', R v' w' → wpList P ops Q rest (a.put o.dst v') w') : wpList P ops Q (o :: rest) a w := by
  obtain ⟨v', w', hr, h2⟩ := hr
  exact Lib.wpList_append_run w hgd s x t tn ho vs vx hs hx v' w' hr (h v' w' h2)

theorem size5 (W : World) : (sizeOf (Try.prog.elem 38)).run Try.prog W = .ok 1 W := by kernel_rfl

/-- b[:k] and b[k:], of bytes -/
theorem slice_front (A : Option Addr) (n c k : Nat) (hnc : n ≤ c) (hk : k ≤ n) :
    ∀ W : World, (Instr.slice 38 (.slice A n c) none (some (.int .i64 (k : Int))) none).run Try.prog W = .ok (.slice A k c) W := by
  intro W
  rw [run_slice_h W 38 A n c (by kernel_rfl) .i64 _ (by omega) (by omega), size5 W]
  simp [sliced, Result.andThen]
  intro _
  cases A <;> rfl
theorem slice_back (A : Option Addr) (n c k : Nat) (hnc : n ≤ c) (hk : k ≤ n) :
    ∃ A' c', (∀ W : World, (Instr.slice 38 (.slice A n c) (some (.int .i64 (k : Int))) none none).run Try.prog W = .ok (.slice A' (n - k) c') W) ∧
      ∀ (F : Nat → Prop) (W : World) (l : Dk.Bs), l.length = n → BytesIn F W A l → BytesIn F W A' (l.drop k) := by
  refine ⟨if c = k then A else A.map (·.add k), c - k, fun W => ?_, fun F W l hl h => ?_⟩
  · rw [run_slice_l W 38 A n c (by kernel_rfl) .i64 _ (by omega) (by omega), size5 W]
    simp [sliced, Result.andThen]
  · by_cases e : k = n
    · rw [List.drop_eq_nil_of_le (by omega)]
      exact CellsIn.nil _ _ _
    · rw [if_neg (by omega)]
      cases A with
      | none =>
        have : l = [] := by
          cases l with
          | nil => rfl
          | cons b l =>
            obtain ⟨ad, h1, _⟩ := BytesIn.at_ h (k := 0) (b := b) rfl
            cases h1
        subst this
        simp only [List.drop_nil]
        exact CellsIn.nil _ _ _
      | some ad =>
        unfold BytesIn at h ⊢
        rw [List.map_drop]
        exact CellsIn.drop h k

theorem mine_sub {W : World} {g s n : Nat} {d : Dk.D} (h : DiskAt W g s n d) : ∀ i, Two g s i → i < W.heap.size := by
  have h1 := h.ltg
  have h2 := h.lts
  rintro i (e | e) <;> omega
theorem int_eq {a b : Int} (h : a = b) : Value.int .i64 a = .int .i64 b := by rw [h]
theorem bsame_true (F : Nat → Prop) (A B : Option Addr) (c d : Nat) (l : Dk.Bs) (n : Nat) (w : World) (hl : l.length = n) (hn : n ≤ 100000) (ha : BytesIn F w A l) (hb : BytesIn F w B l) :
    Calls Try.prog 53 #[.slice A n c, .slice B n d] w fun e w' => e = .returned (.bool true) ∧ ∃ q, w' = w.drewN q := by
  have := bsame_any F A B n n c d l l w hl hl (by unfold maxLen; omega) (by unfold maxLen; omega) ha hb
  rw [decide_eq_true rfl] at this
  exact this
theorem bsame_false (F : Nat → Prop) (A B : Option Addr) (c d : Nat) (l m : Dk.Bs) (n : Nat) (w : World) (hl : l.length = n) (hm : m.length = n) (hne : l ≠ m) (hn : n ≤ 100000) (ha : BytesIn F w A l) (hb : BytesIn F w B m) :
    Calls Try.prog 53 #[.slice A n c, .slice B n d] w fun e w' => e = .returned (.bool false) ∧ ∃ q, w' = w.drewN q := by
  have := bsame_any F A B n n c d l m w hl hm (by unfold maxLen; omega) (by unfold maxLen; omega) ha hb
  rw [decide_eq_false hne] at this
  exact this

theorem own_keep {F : Nat → Prop} {W W' : World} {base : Nat} {e : TypeId} {size n : Nat} {v : Value} {xs : List Value} (h : W.ownsRow base e size v n xs) (hk : Kept F W W') (hF : ∀ i, base ≤ i → ¬ F i) : W'.ownsRow base e size v n xs := by
  obtain ⟨h1, h2⟩ := h
  refine ⟨h1, ?_⟩
  rcases h2 with h2 | ⟨g, cap, cur, hv, hg, hh, r⟩
  · exact .inl h2
  · exact .inr ⟨g, cap, cur, hv, hg, (hk.block g (Array.getElem?_eq_some_iff.1 hh).1 (hF g hg)).trans hh, r⟩

theorem own_ne {w : World} {base : Nat} {e t : TypeId} {size n g : Nat} {v : Value} {xs : List Value} {cs : Array Value} {fr : Nat × Nat} (h : w.ownsRow base e size v n xs) (hg : w.heap[g]? = some (.cells cs t fr)) (hne : e ≠ t) : some g ≠ v.ownBlock := by
  rcases h.2 with ⟨rfl, _⟩ | ⟨g', cap, cur, rfl, _, hh, _⟩
  · simp [Value.ownBlock]
  · intro he
    have e1 : g = g' := by simpa [Value.ownBlock] using he
    subst e1
    exact blocks_ne hh hg hne rfl

theorem row_info : (Try.prog.info? 38).map (fun i => (i.zero, i.size, i.bytes)) = some (some (.slice none 0 0), 1, 24) := by kernel_rfl

theorem bytesAt_of {F : Nat → Prop} {w : World} {A : Option Addr} {l : Dk.Bs} (h : BytesIn F w A l) : Cc.BytesAt w A (Lg.nats l) := by
  intro k b hk
  unfold Lg.nats at hk
  rw [List.getElem?_map] at hk
  cases e : l[k]? with
  | none => rw [e] at hk; cases hk
  | some c =>
    rw [e] at hk
    obtain rfl := Option.some.inj hk
    obtain ⟨ad, rfl, _, _, hc⟩ := BytesIn.at_ h e
    exact ⟨c.toNat_lt, ad, rfl, hc⟩

end Go.Proofs.Ytoocifoglhhnmaa
