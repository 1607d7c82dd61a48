/- What a law on package log holds while it calls; the laws' own wake-up call returns true. -/
import Derived.Test.YtoocifoglhhnmaaLogL
import Derived.Test.YtoocifoglhhnmaaLogInvB
namespace Go.Proofs.Ytoocifoglhhnmaa
open Go.RowKit
set_option linter.unusedVariables false

/-- the values of a row -/
noncomputable def rowVals (w : World) (A : Option Addr) (n : Nat) : List Value := (List.range n).map fun k => ((A.map (fun ad => w.cell? (ad.add k))).getD none).getD undef
theorem rowVals_eq {w : World} {base n c : Nat} {A : Option Addr} {vs : List Value} (h : w.ownsRow base 38 1 (.slice A n c) n vs) : rowVals w A n = vs := by
  have hl : vs.length = n := by simpa using h.1
  apply List.ext_getElem?
  intro k
  unfold rowVals
  by_cases hk : k < n
  · rw [List.getElem?_map, List.getElem?_range hk]
    obtain ⟨u, hu⟩ := some_at vs k (by omega)
    rw [hu]
    rcases h.2 with ⟨e, h0⟩ | ⟨g, cap, cur, e, _⟩
    · omega
    · injection e with e1
      subst e1
      have := h.cells (g := g) rfl k u hu
      simp [this]
  · rw [List.getElem?_eq_none (by simp; omega), List.getElem?_eq_none (by omega)]

/-- the law began in w; a log and its disk, made since; what may turn: F -/
def LL (w W : World) (F : Nat → Prop) (lb g s n : Nat) (x : Lg.L) (d : Dk.D) : Prop := ∃ v, Held W w.heap.size F lb v g s n x d ∧ Below w.heap.size w W
/-- what a step lets be -/
structure Next (F F' : Nat → Prop) (W W' : World) : Prop where
  kept : Kept F W W'
  sub : ∀ i, F i → F' i
  new : ∀ i, F' i → F i ∨ W.heap.size ≤ i
theorem Next.refl (F : Nat → Prop) (W : World) : Next F F W W := ⟨Kept.refl _ _, fun _ => id, fun _ => .inl⟩
theorem Next.of_below {F : Nat → Prop} {W W' : World} (h : Below W.heap.size W W') : Next F F W W' := ⟨Kept.of_below h, fun _ => id, fun _ => .inl⟩
theorem Next.of_two {F : Nat → Prop} {g s : Nat} {W W' : World} (h : Kept (Two g s) W W') (hF : ∀ i, Two g s i → F i) : Next F F W W' := ⟨h.wide (fun i _ => hF i), fun _ => id, fun _ => .inl⟩
theorem Next.row {F F' : Nat → Prop} {W W' : World} (h : Next F F' W W') {A : Option Addr} {rs : List Dk.Bs} (hr : RowIn F W A rs) : RowIn F' W' A rs :=
  (hr.less (fun i hi hf => (h.new i hf).resolve_right (by omega))).keep (h.kept.wide (fun i _ => h.sub i))
theorem Next.bytes {F F' : Nat → Prop} {W W' : World} (h : Next F F' W W') {A : Option Addr} {l : Dk.Bs} (hr : BytesIn F W A l) : BytesIn F' W' A l :=
  CellsIn.keep (CellsIn.less hr (fun i hi hf => (h.new i hf).resolve_right (by omega))) (h.kept.wide (fun i _ => h.sub i))
theorem Next.mine {F F' : Nat → Prop} {W W' : World} (h : Next F F' W W') {B : Nat} (hF : ∀ i, F i → B ≤ i) : Kept (Mine B) W W' := h.kept.wide (fun i _ hi => hF i hi)

theorem LL.fge {w W : World} {F : Nat → Prop} {lb g s n : Nat} {x : Lg.L} {d : Dk.D} (h : LL w W F lb g s n x d) : ∀ i, F i → w.heap.size ≤ i := by obtain ⟨v, h1, _⟩ := h; exact h1.fge
theorem LL.flt {w W : World} {F : Nat → Prop} {lb g s n : Nat} {x : Lg.L} {d : Dk.D} (h : LL w W F lb g s n x d) : ∀ i, F i → i < W.heap.size := by obtain ⟨v, h1, _⟩ := h; exact h1.flt
theorem LL.two {w W : World} {F : Nat → Prop} {lb g s n : Nat} {x : Lg.L} {d : Dk.D} (h : LL w W F lb g s n x d) : ∀ i, Two g s i → F i := by obtain ⟨v, h1, _⟩ := h; exact h1.two
theorem LL.run {w W : World} {F : Nat → Prop} {lb g s n : Nat} {x : Lg.L} {d : Dk.D} (h : LL w W F lb g s n x d) : Run w g s n W d := by
  obtain ⟨v, h1, h2⟩ := h
  exact ⟨h1.disk, h2, h1.fge g h1.fg, h1.fge s h1.fs⟩
theorem LL.turn {w W W' : World} {F : Nat → Prop} {lb g s n : Nat} {x : Lg.L} {d d' : Dk.D} (h : LL w W F lb g s n x d) (hd : DiskAt W' g s n d') (hk : Kept (Two g s) W W') : LL w W' F lb g s n x d' := by
  have hr := h.run
  obtain ⟨v, h1, h2⟩ := h
  exact ⟨v, h1.turn hd hk, (hr.step hd hk).bel⟩
theorem LL.below {w W W' : World} {F : Nat → Prop} {lb g s n : Nat} {x : Lg.L} {d : Dk.D} (h : LL w W F lb g s n x d) (hb : Below W.heap.size W W') : LL w W' F lb g s n x d := h.turn (h.run.at_.below hb) (Kept.of_below hb)
theorem LL.alloc {w W : World} {F : Nat → Prop} {lb g s n : Nat} {x : Lg.L} {d : Dk.D} (h : LL w W F lb g s n x d) (o : Obj) : LL w (W.alloc o) F lb g s n x d := h.below ((Below.refl _ _).alloc (Nat.le_refl _) o)
theorem LL.drewN {w W : World} {F : Nat → Prop} {lb g s n : Nat} {x : Lg.L} {d : Dk.D} (h : LL w W F lb g s n x d) (q : Nat) : LL w (W.drewN q) F lb g s n x d := h.below ⟨rfl, rfl, rfl, Nat.le_refl _, fun _ _ => rfl⟩
theorem LL.bel {w W : World} {F : Nat → Prop} {lb g s n : Nat} {x : Lg.L} {d : Dk.D} (h : LL w W F lb g s n x d) : Below w.heap.size w W := h.run.bel
theorem LL.good {w W : World} {F : Nat → Prop} {lb g s n : Nat} {x : Lg.L} {d : Dk.D} (h : LL w W F lb g s n x d) : Lg.LGood n x := by obtain ⟨v, h1, _⟩ := h; exact h1.log.good

/-- Open, of a disk: beside it something F lies that its disk is part of -/
theorem ll_open {w W : World} {g s n : Nat} {d : Dk.D} (F : Nat → Prop) (hF : ∀ i, Two g s i → F i) (h : Run w g s n W d) (hn4 : 4 ≤ n) (hw : d.writes ≤ 800000) (q : Dk.D × Int × Lg.L) (hq : openQ n d = q) (hc : q.2.1 = 0) :
    Calls Try.prog 10 #[.pointer (some ⟨g, 0, none⟩)] W fun e w' => ∃ lb F', e = .returned (.tuple #[.pointer (some ⟨lb, 0, none⟩), .int .i64 0]) ∧ LL w w' F' lb g s n q.2.2 q.1 ∧ Kept (Two g s) W w' ∧ (∀ i, F' i → Two g s i ∨ W.heap.size ≤ i) := by
  subst hq
  refine (open_any W w.heap.size g s n d h.at_ hn4 hw h.hg h.hs).mono fun e w' hp => ?_
  rcases hp with ⟨_, lb, F', v, e1, h1, h2, h3⟩ | ⟨h0, _⟩
  · exact ⟨lb, F', e1, ⟨v, h1, (h.step h1.disk h2).bel⟩, h2, h3⟩
  · exact absurd hc h0
/-- what lay beside is safe from the new log too -/
theorem open_row {F F' : Nat → Prop} {g s : Nat} {W W' : World} (hk : Kept (Two g s) W W') (hF : ∀ i, Two g s i → F i) (hn : ∀ i, F' i → Two g s i ∨ W.heap.size ≤ i) {A : Option Addr} {rs : List Dk.Bs} (hr : RowIn F W A rs) : RowIn (fun i => F i ∨ F' i) W' A rs :=
  (hr.less (fun i hi hf => by
    rcases hf with hf | hf
    · exact hf
    · rcases hn i hf with h | h
      · exact hF i h
      · omega)).keep (hk.wide (fun i _ hi => .inl (hF i hi)))
theorem ll_open_no {w W : World} {g s n : Nat} {d : Dk.D} (h : Run w g s n W d) (hn4 : 4 ≤ n) (hw : d.writes ≤ 800000) (q : Dk.D × Int × Lg.L) (hq : openQ n d = q) (hc : q.2.1 ≠ 0) :
    Calls Try.prog 10 #[.pointer (some ⟨g, 0, none⟩)] W fun e w' => e = .returned (.tuple #[.pointer none, .int .i64 q.2.1]) ∧ Run w g s n w' q.1 ∧ Kept (Two g s) W w' := by
  subst hq
  refine (open_any W w.heap.size g s n d h.at_ hn4 hw h.hg h.hs).mono fun e w' hp => ?_
  rcases hp with ⟨h0, _⟩ | ⟨_, e1, h1, h2⟩
  · exact absurd h0 hc
  · exact ⟨e1, h.step h1 h2, h2⟩
theorem ll_append {w W : World} {F : Nat → Prop} {lb g s n : Nat} {x : Lg.L} {d : Dk.D} (h : LL w W F lb g s n x d) (hw : d.writes ≤ 900000) (A : Option Addr) (m c : Nat) (b : Dk.Bs) (hm : b.length = m) (hmc : m ≤ c) (hcx : c ≤ maxLen) (hb : BytesIn F W A b) (q : Dk.D × Int × Lg.L) (hq : Lg.appS n d x b = q) :
    Calls Try.prog 16 #[.pointer (some ⟨lb, 0, none⟩), .slice A m c] W fun e w' => ∃ F', e = .returned (.int .i64 q.2.1) ∧ LL w w' F' lb g s n q.2.2 q.1 ∧ Next F F' W w' := by
  subst hq
  obtain ⟨v, h1, h2⟩ := h
  refine (append_any W w.heap.size F lb v g s n x d A m c b h1 hw hm hmc (by omega) hb).mono fun e w' ⟨e1, F', v', a1, a2, a3, a4⟩ => ?_
  exact ⟨F', e1, ⟨v', a1, a2.below h2 h1.hb (fun i hi e => by have := h1.fge i e; omega)⟩, ⟨a2, a3, a4⟩⟩
theorem ll_only {w W : World} {F : Nat → Prop} {lb g s n : Nat} {x : Lg.L} {d : Dk.D} (h : LL w W F lb g s n x d) (hw : d.writes ≤ 900000) (hn4 : 4 ≤ n) (A : Option Addr) (m c : Nat) (rs : List Dk.Bs) (hm : rs.length = m) (hmx : m ≤ 1000) (hb : RowIn F W A rs) (q : Dk.D × Int × Lg.L) (hq : Lg.onlyS n d x rs = q) :
    Calls Try.prog 18 #[.pointer (some ⟨lb, 0, none⟩), .slice A m c] W fun e w' => ∃ F', e = .returned (.int .i64 q.2.1) ∧ LL w w' F' lb g s n q.2.2 q.1 ∧ Next F F' W w' := by
  subst hq
  obtain ⟨v, h1, h2⟩ := h
  refine (only_any W w.heap.size F lb v g s n x d A m c rs h1 hw hn4 hm hmx hb).mono fun e w' ⟨e1, F', v', a1, a2, a3, a4⟩ => ?_
  exact ⟨F', e1, ⟨v', a1, a2.below h2 h1.hb (fun i hi e => by have := h1.fge i e; omega)⟩, ⟨a2, a3, a4⟩⟩
theorem ll_records {w W : World} {F : Nat → Prop} {lb g s n : Nat} {x : Lg.L} {d : Dk.D} (h : LL w W F lb g s n x d) :
    Calls Try.prog 25 #[.pointer (some ⟨lb, 0, none⟩)] W fun e w' => ∃ A c, e = .returned (.slice A x.recs.length c) ∧ (RowIn (fun i => i < W.heap.size) w' A x.recs ∧ w'.ownsRow W.heap.size 38 1 (.slice A x.recs.length c) x.recs.length (rowVals w' A x.recs.length)) ∧ Below W.heap.size W w' := by
  obtain ⟨v, h1, h2⟩ := h
  refine (records_any W w.heap.size lb g n F v x h1.log h1.disk.n1).mono fun e w' ⟨u, e1, f1, f2, A, c, f3⟩ => ?_
  subst f3
  obtain ⟨A', c', e2, _, _, hrow⟩ := f1.slice
  injection e2 with e3 e4 e5
  subst e3
  refine ⟨A, c, e1, ⟨hrow _ (fun i _ hi => .inl hi) (fun i hi hlt => ?_), ?_⟩, f2⟩
  · obtain ⟨vs, ho, _⟩ := f1
    have := (ho.lt i hi).1
    omega
  · obtain ⟨vs, ho, _⟩ := f1
    rw [rowVals_eq ho]
    exact ho
theorem ll_left {w W : World} {F : Nat → Prop} {lb g s n : Nat} {x : Lg.L} {d : Dk.D} (h : LL w W F lb g s n x d) :
    Calls Try.prog 26 #[.pointer (some ⟨lb, 0, none⟩)] W fun e w' => e = .returned (.int .i64 (n / 2 - x.fin : Nat)) ∧ ∃ q, w' = W.drewN q := by
  obtain ⟨v, h1, h2⟩ := h
  exact left_any W w.heap.size lb g n F v x h1.log h1.disk.n1
theorem ll_gen {w W : World} {F : Nat → Prop} {lb g s n : Nat} {x : Lg.L} {d : Dk.D} (h : LL w W F lb g s n x d) :
    Calls Try.prog 27 #[.pointer (some ⟨lb, 0, none⟩)] W fun e w' => e = .returned (.int .i64 (x.gen : Nat)) ∧ W = w' := by
  obtain ⟨v, h1, h2⟩ := h
  exact gen_any W w.heap.size lb g n F v x h1.log
theorem ll_fuse {w W : World} {F : Nat → Prop} {lb g s n : Nat} {x : Lg.L} {d : Dk.D} (h : LL w W F lb g s n x d) (a c : Int) (h0 : -9223372036854775808 ≤ a) (h1 : a ≤ 9223372036854775807) :
    Calls Try.prog 12 #[.pointer (some ⟨g, 0, none⟩), .int .i64 a, .int .i64 c] W fun e w' => e = .returned (.tuple #[]) ∧ LL w w' F lb g s n x (Dk.fuseTo d a c) ∧ Kept (Two g s) W w' :=
  (fuse_any g s n d a c W h.run.at_ h0 h1).mono fun _ _ ⟨e1, e2, e3⟩ => ⟨e1, h.turn e2 e3, e3⟩

/-! what can be reckoned -/
def isNewC (b : Dk.Bs) (s size : Nat) : Bool := (List.range size).all (fun a => a == 0 || decide (Dk.sec b (s + a) = Lg.zeros 32)) && decide ((Dk.sec b s).getD 31 0 = 0)
theorem isNewC_eq (b : Dk.Bs) (s size : Nat) : isNewB b s size = isNewC b s size := by
  have h : isNewC b s size = true ↔ Lg.IsNew b s size := by
    unfold isNewC Lg.IsNew
    rw [Bool.and_eq_true, List.all_eq_true, decide_eq_true_iff]
    refine and_congr ⟨fun h a h1 h2 => ?_, fun h a ha => ?_⟩ Iff.rfl
    · have := h a (List.mem_range.2 h2)
      rw [Bool.or_eq_true, decide_eq_true_iff] at this
      rcases this with e | e
      · simp at e; omega
      · exact e
    · rw [Bool.or_eq_true, decide_eq_true_iff]
      by_cases e : a = 0
      · left; simp [e]
      · exact .inr (h a (by omega) (List.mem_range.1 ha))
  cases hb : isNewC b s size with
  | true => exact isNewB_true.2 (h.1 hb)
  | false => exact isNewB_false.2 (fun hh => by rw [h.2 hh] at hb; cases hb)
def chooseC (n : Nat) (d : Dk.D) : Dk.D × Int × Nat × Nat :=
  if Lg.genOf d.b 0 < Lg.genOf d.b (n / 2) then (d, 0, Lg.genOf d.b (n / 2), 1)
  else if 0 < Lg.genOf d.b 0 then (d, 0, Lg.genOf d.b 0, 0)
  else if isNewC d.b 0 (n / 2) = false then (d, 8, 0, 0)
  else ((Lg.wr n d 0 (Lg.head 1)).1, (Lg.wr n d 0 (Lg.head 1)).2, 1, 0)
def openEndC (n : Nat) (c : Dk.D × Int × Nat × Nat) : Dk.D × Int × Lg.L :=
  if c.2.1 = 0 then
    ((Lg.wipeS n (Lg.start n c.2.2.2) (Lg.scan c.1.b (Lg.start n c.2.2.2) (n / 2) c.2.2.1 (n / 2) 1 0).2 (n / 2) c.1).1,
     (Lg.wipeS n (Lg.start n c.2.2.2) (Lg.scan c.1.b (Lg.start n c.2.2.2) (n / 2) c.2.2.1 (n / 2) 1 0).2 (n / 2) c.1).2,
     ⟨c.2.2.2, c.2.2.1, (Lg.scan c.1.b (Lg.start n c.2.2.2) (n / 2) c.2.2.1 (n / 2) 1 0).1, (Lg.scan c.1.b (Lg.start n c.2.2.2) (n / 2) c.2.2.1 (n / 2) 1 0).2, false⟩)
  else (c.1, c.2.1, raw 0 0)
def openC (n : Nat) (d : Dk.D) : Dk.D × Int × Lg.L := openEndC n (chooseC n d)
theorem openC_eq (n : Nat) (d : Dk.D) : openQ n d = openC n d := by
  unfold openQ openC chooseQ chooseC openEnd openEndC
  rw [isNewC_eq]

def q1 := openC 8 (Dk.fresh 8)
def q2 := Lg.appS 8 q1.1 q1.2.2 [97, 98]
def d3 := Dk.fuseTo q2.1 0 31
def q4 := Lg.appS 8 d3 q2.2.2 [99, 100]
def d5 := Dk.crash q4.1
def q6 := openC 8 d5
def q7 := Lg.onlyS 8 q6.1 q6.2.2 [[120], []]
def q8 := Lg.appS 8 q7.1 q7.2.2 (Lg.zeros 18)
theorem aw1 : q1.2.1 = 0 ∧ q1.1.writes ≤ 900000 := by decide +kernel
theorem aw2 : q2.2.1 = 0 ∧ q2.1.writes ≤ 900000 := by decide +kernel
theorem aw4 : q4.2.1 = 7 ∧ q4.1.writes ≤ 800000 := by decide +kernel
theorem aw6 : q6.2.1 = 0 ∧ q6.1.writes ≤ 900000 ∧ q6.2.2.recs = [[97, 98]] := by decide +kernel
theorem aw7 : q7.2.1 = 0 ∧ q7.1.writes ≤ 900000 := by decide +kernel
theorem aw8 : q8.2.1 = 4 ∧ q8.2.2.gen = 2 ∧ 8 / 2 - q8.2.2.fin = 1 ∧ q8.2.2.recs.length = 2 ∧ (Dk.sec q8.1.b 4).getD 3 0 = 2 ∧ (Dk.sec q8.1.b 4).getD 31 0 = 165 := by decide +kernel

theorem row_new {F : Nat → Prop} {W w' : World} {A : Option Addr} {rs : List Dk.Bs} (h : RowIn (fun i => i < W.heap.size) w' A rs) (hF : ∀ i, F i → i < W.heap.size) : RowIn F w' A rs := h.less (fun i _ hi => hF i hi)

set_option maxHeartbeats 4000000 in
set_option maxRecDepth 100000 in
theorem awake_any (w : World) : Calls Try.prog 6 #[] w fun e w' => e = .returned (.bool true) ∧ Below w.heap.size w w' := by
  have HN : Hid (Calls Try.prog 8 #[.int .i64 8] w fun e w' => ∃ g s, e = .returned (.tuple #[.pointer (some ⟨g, 0, none⟩), .int .i64 0]) ∧ Run w g s 8 w' (Dk.fresh 8) ∧ Below w.heap.size w w') := run_new 8 w w (Below.refl _ _) (by omega) (by omega)
  have kc := fun (w : World) (C : Array Value) (n c : Nat) => Lib.run_convert_bytes_const (P := Try.prog) w 38 5 C n c Try.underlying38 Try.underlying5
  have hmk : ∀ W : World, (Instr.makeSlice 38 (.int .i64 18) (.int .i64 18)).run Try.prog W = .ok (.slice (some ⟨W.heap.size, 0, none⟩) 18 18) (W.alloc (.cells ((Lg.zeros 18).map bv).toArray 5)) := make_zeros 18 (by omega)
  go_enter Try.func6, Try.ntmps6
  go_wp2_with fail
  refine HN.out.mono ?_
  rintro e w0 ⟨g, s, rfl, h0, _⟩
  have H0 := Lib.hid h0
  clear h0 HN
  go_wp2_with fail
  refine (ll_open (Two g s) (fun _ => id) H0.out (by omega) (by decide) q1 (openC_eq 8 _) aw1.1).mono ?_
  rintro e w1 ⟨lb, F1, rfl, h1, _⟩
  have H1 := Lib.hid h1
  clear h1 H0
  go_wp2_with fail
  refine (open_nil w1).mono ?_
  rintro e w' ⟨rfl, rfl⟩
  go_wp2_with fail
  refine (ll_append (H1.out.alloc (.cells #[.int .u8 97, .int .u8 98] 5 (2, 3))) aw1.2 (some ⟨w1.heap.size, 0, none⟩) 2 2 [97, 98] rfl (by omega) (by decide) (CellsIn.of_block (cs := [97, 98].map bv) (heap_alloc_new w1 _) (fun hf => by have := H1.out.flt _ hf; omega)) q2 rfl).mono ?_
  rintro e w2 ⟨F2, rfl, h2, _⟩
  rw [aw2.1]
  have H2 := Lib.hid h2
  clear h2 H1
  go_wp2_with fail
  refine (ll_fuse H2.out 0 31 (by omega) (by omega)).mono ?_
  rintro e w3 ⟨rfl, h3, _⟩
  have H3 : Hid (LL w w3 F2 lb g s 8 q2.2.2 d3) := h3
  clear h3 H2
  go_wp2_with fail
  refine (ll_append (H3.out.alloc (.cells #[.int .u8 99, .int .u8 100] 5 (2, 3))) aw2.2 (some ⟨w3.heap.size, 0, none⟩) 2 2 [99, 100] rfl (by omega) (by decide) (CellsIn.of_block (cs := [99, 100].map bv) (heap_alloc_new w3 _) (fun hf => by have := H3.out.flt _ hf; omega)) q4 rfl).mono ?_
  rintro e w4 ⟨F4, rfl, h4, _⟩
  rw [aw4.1]
  have H4 := Lib.hid h4.run
  clear h4 H3
  go_wp2_with fail
  refine (run_crash H4.out d5 rfl).mono ?_
  rintro e w5 ⟨rfl, h5, _⟩
  have H5 := Lib.hid h5
  clear h5 H4
  go_wp2_with fail
  refine (ll_open (Two g s) (fun _ => id) H5.out (by omega) aw4.2 q6 (openC_eq 8 _) aw6.1).mono ?_
  rintro e w6 ⟨lm, F6, rfl, h6, _⟩
  have H6 := Lib.hid h6
  clear h6 H5
  go_wp2_with fail
  refine (ll_records H6.out).mono ?_
  rintro e w7 ⟨A, c, rfl, ⟨hrow, _⟩, hb7⟩
  rw [aw6.2.2] at hrow ⊢
  have HROW := Lib.hid (row_new hrow H6.out.flt)
  have H7 := Lib.hid (H6.out.below hb7)
  have hlen1 : ([[97, 98]] : List Dk.Bs).length = 1 := rfl
  rw [hlen1]
  clear hrow hb7 H6 hlen1
  go_wp2_with fail
  have HB8 : Hid (Below w7.heap.size w7 ((w7.alloc (.cells #[.int .u8 120] 5 (1, 2))).alloc (.cells #[.slice (some ⟨w7.heap.size, 0, none⟩) 1 1, .slice none 0 0] 38))) := ((Below.refl _ w7).alloc (Nat.le_refl _) _).alloc (by simp) _
  have HRX : Hid (RowIn F6 ((w7.alloc (.cells #[.int .u8 120] 5 (1, 2))).alloc (.cells #[.slice (some ⟨w7.heap.size, 0, none⟩) 1 1, .slice none 0 0] 38)) (some ⟨w7.heap.size + 1, 0, none⟩) [[120], []]) := by
    have hsz : (w7.alloc (.cells #[.int .u8 120] 5 (1, 2))).heap.size = w7.heap.size + 1 := by simp
    have hblk := heap_alloc_new (w7.alloc (.cells #[.int .u8 120] 5 (1, 2))) (.cells #[.slice (some ⟨w7.heap.size, 0, none⟩) 1 1, .slice none 0 0] 38)
    rw [hsz] at hblk
    have hblk0 : ((w7.alloc (.cells #[.int .u8 120] 5 (1, 2))).alloc (.cells #[.slice (some ⟨w7.heap.size, 0, none⟩) 1 1, .slice none 0 0] 38)).heap[w7.heap.size]? = some (.cells ([120].map bv).toArray 5 (1, 2)) := by
      rw [Below.heap_alloc _ _ _ (by simp)]
      exact heap_alloc_new w7 _
    intro k r hr
    have hlt : w7.heap.size + 1 < ((w7.alloc (.cells #[.int .u8 120] 5 (1, 2))).alloc (.cells #[.slice (some ⟨w7.heap.size, 0, none⟩) 1 1, .slice none 0 0] 38)).heap.size := (Array.getElem?_eq_some_iff.1 hblk).1
    have hnf : ¬ F6 (w7.heap.size + 1) := fun hf => by have := H7.out.flt _ hf; omega
    have hnf0 : ¬ F6 w7.heap.size := fun hf => by have := H7.out.flt _ hf; omega
    match k, hr with
    | 0, hr =>
      obtain rfl := Option.some.inj hr
      refine ⟨_, .slice (some ⟨w7.heap.size, 0, none⟩) 1 1, rfl, hlt, hnf, ?_, some ⟨w7.heap.size, 0, none⟩, 1, rfl, Nat.le_refl _, by decide, CellsIn.of_block (cs := [120].map bv) hblk0 hnf0⟩
      rw [Addr.add_mid, cell_of_row _ (w7.heap.size + 1) _ _ _ _ hblk]; rfl
    | 1, hr =>
      obtain rfl := Option.some.inj hr
      refine ⟨_, .slice none 0 0, rfl, hlt, hnf, ?_, none, 0, rfl, Nat.le_refl _, by decide, CellsIn.nil _ _ _⟩
      rw [Addr.add_mid, cell_of_row _ (w7.heap.size + 1) _ _ _ _ hblk]; rfl
    | k + 2, hr => simp at hr
  refine (ll_only (H7.out.below HB8.out) aw6.2.1 (by omega) (some ⟨w7.heap.size + 1, 0, none⟩) 2 2 [[120], []] rfl (by omega) HRX.out q7 rfl).mono ?_
  rintro e w8 ⟨F8, rfl, h8, n8⟩
  rw [aw7.1]
  have H8 := Lib.hid h8
  have HROW8 := Lib.hid (n8.row ((Next.of_below HB8.out).row HROW.out))
  clear h8 n8 H7 HROW HB8 HRX
  go_wp2_with fail
  have HB9 : Hid (Below w8.heap.size w8 (w8.alloc (.cells ((Lg.zeros 18).map bv).toArray 5))) := (Below.refl _ w8).alloc (Nat.le_refl _) _
  refine (ll_append (H8.out.below HB9.out) aw7.2 (some ⟨w8.heap.size, 0, none⟩) 18 18 (Lg.zeros 18) rfl (by omega) (by decide) (CellsIn.of_block (heap_alloc_new w8 _) (fun hf => by have := H8.out.flt _ hf; omega)) q8 rfl).mono ?_
  rintro e w9 ⟨F9, rfl, h9, n9⟩
  rw [aw8.1]
  have H9 := Lib.hid h9
  have HROW9 := Lib.hid (n9.row ((Next.of_below HB9.out).row HROW8.out))
  clear h9 n9 H8 HROW8 HB9 hmk
  go_wp2_with fail
  refine (run_read H9.out.run 4 (by omega)).mono ?_
  rintro e wa ⟨rfl, hby, _, hba⟩
  have HA := Lib.hid (H9.out.below hba)
  have HROWA := Lib.hid ((Next.of_below hba).row HROW9.out)
  have hsl := Dk.sec_len H9.out.run.at_.good.len (show 4 < 8 by omega)
  obtain ⟨y3, hy3⟩ := some_at (Dk.sec q8.1.b 4) 3 (by omega)
  obtain ⟨y31, hy31⟩ := some_at (Dk.sec q8.1.b 4) 31 (by omega)
  have e3 : y3 = 2 := by have := aw8.2.2.2.2.1; rw [List.getD_eq_getElem?_getD, hy3] at this; exact this
  have e31 : y31 = 165 := by have := aw8.2.2.2.2.2; rw [List.getD_eq_getElem?_getD, hy31] at this; exact this
  subst e3 e31
  have HY : Hid (BytesIn No wa (some ⟨w9.heap.size, 0, none⟩) (Dk.sec q8.1.b 4)) := bytes_no hby
  obtain ⟨ad, v0, rfl, _, _, hc0, B0, cc0, rfl, _, _, hb0⟩ := HROWA.out 0 [97, 98] rfl
  have hc0' : wa.cell? ad = some (.slice B0 2 cc0) := by have : ad.add 0 = ad := rfl
                                                         rw [this] at hc0; exact hc0
  have hcv : (convert 38 9 (.slice B0 2 cc0)).run Try.prog wa = .ok (.string ⟨#[97, 98]⟩) wa := conv_str _ wa B0 [97, 98] cc0 hb0
  have HG := ll_gen HA.out
  rw [aw8.2.1] at HG
  have HG := Lib.hid HG
  have HL := ll_left HA.out
  rw [aw8.2.2.1] at HL
  have HL := Lib.hid HL
  have HR : Hid (∀ q, Calls Try.prog 25 #[.pointer (some ⟨lm, 0, none⟩)] (wa.drewN q) fun e w' => ∃ A c, e = .returned (.slice A 2 c) ∧ Hid (Below w.heap.size w w') ∧ w'.cell? ⟨w9.heap.size, 3, none⟩ = some (.int .u8 2) ∧ w'.cell? ⟨w9.heap.size, 31, none⟩ = some (.int .u8 165)) := fun q => by
    refine (ll_records (HA.out.drewN q)).mono fun e w' ⟨A, c, e1, _, hb⟩ => ?_
    rw [aw8.2.2.2.1] at e1
    have hyb : BytesIn No w' (some ⟨w9.heap.size, 0, none⟩) (Dk.sec q8.1.b 4) := bytes_keep (w := wa.drewN q) HY.out hb
    obtain ⟨a3, f3, _, _, g3⟩ := BytesIn.at_ hyb hy3
    obtain ⟨a31, f31, _, _, g31⟩ := BytesIn.at_ hyb hy31
    obtain rfl := Option.some.inj f3
    obtain rfl := Option.some.inj f31
    exact ⟨A, c, e1, (HA.out.drewN q).bel.trans (hb.mono (HA.out.drewN q).bel.size), g3, g31⟩
  clear hby hba hsl hy3 hy31 HY HROWA HROW9 H9 HA hc0 hb0
  go_wp2_with (first
    | (go_at_call 27; refine HG.out.mono ?_; rintro e w' ⟨rfl, rfl⟩)
    | (go_at_call 26; refine HL.out.mono ?_; rintro e w' ⟨rfl, qq, rfl⟩)
    | (go_at_call 25; refine (HR.out _).mono ?_; rintro e wb ⟨A2, c2, rfl, hbb, g3, g31⟩))
  go_ret
  exact ⟨rfl, hbb.out⟩

end Go.Proofs.Ytoocifoglhhnmaa
