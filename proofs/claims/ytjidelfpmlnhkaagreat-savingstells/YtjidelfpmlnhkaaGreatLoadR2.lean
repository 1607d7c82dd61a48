/- Contracts of the document's Sum and Carries. -/
import Derived.Test.YtjidelfpmlnhkaaGreatLoadR1
import Derived.Test.YtjidelfpmlnhkaaGreatMems
import Derived.Maps.AppendAt
namespace Go.Proofs.YtjidelfpmlnhkaaGreat
open Go.RowKit
set_option linter.unusedVariables false

theorem wpList_append_n {P : Program} {w : World} {ops : Array Oper} {rest : List Oper} {o : Oper} {a : Act} {Q : Exit → Act → World → Prop} (hgd : o.guard = none) (s x : Operand) (t tn : TypeId)
    (ho : o.op = .call { callee := .builtin .append, args := #[s, x], argTypes := #[t, tn] }) (vs vx : Value) (hs : a.eval s = vs) (hx : a.eval x = vx)
    (R : Value → World → Prop) (hr : ∃ v' w', (Builtin.append_ #[t, tn] o.type #[vs, vx]).run P w = .ok v' w' ∧ R v' w')
    (h : ∀ v' w', R v' w' → wpList P ops Q rest (a.put o.dst v') w') : wpList P ops Q (o :: rest) a w := by
  obtain ⟨v', w', hr, h2⟩ := hr
  exact Lib.wpList_append_run w hgd s x t tn ho vs vx hs hx v' w' hr (h v' w' h2)

def OwnN (W : World) (base : Nat) (v : Value) (l : List Int) : Prop := W.ownsRow base 2 1 v l.length (l.map (Value.int .i64))
theorem OwnN.blocks {W W' : World} {base : Nat} {A : Option Addr} {n c : Nat} {l : List Int} (h : OwnN W base (.slice A n c) l) (hb : ∀ ad, A = some ad → ad.block < W.heap.size → W'.heap[ad.block]? = W.heap[ad.block]?) : OwnN W' base (.slice A n c) l := by
  obtain ⟨h1, h2⟩ := h
  refine ⟨h1, ?_⟩
  rcases h2 with h2 | ⟨g, cap, cur, hv, hg, hh, r⟩
  · exact .inl h2
  · injection hv with e1 e2 e3
    exact .inr ⟨g, cap, cur, by rw [e1, e2, e3], hg, (hb _ e1 (Array.getElem?_eq_some_iff.1 hh).1).trans hh, r⟩
theorem OwnN.place {W : World} {base : Nat} {A : Option Addr} {n c : Nat} {l : List Int} (h : OwnN W base (.slice A n c) l) : ∀ ad, A = some ad → base ≤ ad.block ∧ ad.block < W.heap.size := by
  intro ad e
  rcases h.2 with ⟨hv, _⟩ | ⟨g, cap, cur, hv, hg, hh, _⟩
  · injection hv with e1 e2 e3
    rw [e1] at e
    cases e
  · injection hv with e1 e2 e3
    rw [e1] at e
    obtain rfl := Option.some.inj e
    exact ⟨hg, (Array.getElem?_eq_some_iff.1 hh).1⟩
theorem OwnN.ints {W : World} {base : Nat} {A : Option Addr} {n c : Nat} {l : List Int} (h : OwnN W base (.slice A n c) l) : IntsAt W A l := by
  have h' := h
  rcases h'.2 with ⟨hv, h2⟩ | ⟨g, cap, cur, hv, hbg, hg, hnc, hcm, _⟩
  · have : l = [] := List.eq_nil_of_length_eq_zero h2
    subst this
    exact IntsAt.nil _ _
  · injection hv with e1 e2 e3
    subst e1 e2 e3
    refine fun k z hz => ⟨_, rfl, World.ownsRow.cells h (g := g) rfl k _ ?_⟩
    rw [List.getElem?_map, hz]
    rfl
theorem OwnN.start (W : World) (base : Nat) (h : base ≤ W.heap.size) : OwnN (W.alloc (.cells #[] 2)) base (.slice (some ⟨W.heap.size, 0, none⟩) 0 0) [] :=
  ⟨by simp, .inr ⟨W.heap.size, 0, #[], rfl, h, heap_alloc_new W _, Nat.le_refl _, by decide, by simp, by simp⟩⟩

/-- two lists of numbers, each in a row of its own -/
structure Two (w : World) (A : Option Addr) (n ca : Nat) (la : List Int) (B : Option Addr) (m cb : Nat) (lb : List Int) (W : World) : Prop where
  bel : Below w.heap.size w W
  na : la.length = n
  nb : lb.length = m
  oa : OwnN W w.heap.size (.slice A n ca) la
  ob : OwnN W w.heap.size (.slice B m cb) lb
  ap : ∀ x y, A = some x → B = some y → x.block ≠ y.block
theorem Two.swap {w W : World} {A B : Option Addr} {n ca m cb : Nat} {la lb : List Int} (h : Two w A n ca la B m cb lb W) : Two w B m cb lb A n ca la W :=
  ⟨h.bel, h.nb, h.na, h.ob, h.oa, fun x y e1 e2 => (h.ap y x e2 e1).symm⟩
theorem Two.start (w : World) : Two w (some ⟨w.heap.size, 0, none⟩) 0 0 [] (some ⟨w.heap.size + 1, 0, none⟩) 0 0 [] ((w.alloc (.cells #[] 2)).alloc (.cells #[] 2)) := by
  have hsz : (w.alloc (.cells #[] 2)).heap.size = w.heap.size + 1 := by simp
  refine ⟨below_more (below_alloc _ _) _, rfl, rfl, (OwnN.start w w.heap.size (Nat.le_refl _)).blocks fun ad e hlt => heap_alloc_old _ _ hlt, ?_, ?_⟩
  · have := OwnN.start (w.alloc (.cells #[] 2)) w.heap.size (by omega)
    rw [hsz] at this
    exact this
  · intro x y e1 e2
    obtain rfl := Option.some.inj e1
    obtain rfl := Option.some.inj e2
    show w.heap.size ≠ w.heap.size + 1
    omega

/-- what putting one more number behind the first list leaves -/
def PutN (w : World) (n : Nat) (la : List Int) (B : Option Addr) (m cb : Nat) (lb : List Int) (v' : Value) (W' : World) : Prop := ∃ A' c', v' = .slice A' n c' ∧ Hid (Two w A' n c' la B m cb lb W')
theorem Two.put {w W : World} {A B : Option Addr} {n ca m cb : Nat} {la lb : List Int} (h : Two w A n ca la B m cb lb W) (z : Int) (la' : List Int) (n' : Nat) (hl : la ++ [z] = la') (hn : n + 1 = n') (hs : n ≤ 1000) :
    ∃ v' w', (Builtin.append_ #[22, 22] 22 #[.slice A n ca, .slice (some ⟨W.heap.size, 0, none⟩) 1 1]).run Tryz.prog (W.alloc (.cells #[.int .i64 z] 2)) = .ok v' w' ∧ PutN w n' la' B m cb lb v' w' := by
  subst hl hn
  obtain ⟨i0, hi0, hz0, hz1, hz2⟩ := info_parts4 int64_info
  have hbx : Box (W.alloc (.cells #[.int .i64 z] 2)) W.heap.size #[.int .i64 z] 2 := Box.new _ _ _
  have hna := h.na
  have hoa : OwnN (W.alloc (.cells #[.int .i64 z] 2)) w.heap.size (.slice A n ca) la := h.oa.blocks fun ad e hlt => heap_alloc_old _ _ hlt
  have hbw := h.bel.size
  obtain ⟨v', w', h1, h2, h3, _, h5⟩ := run_append_own_at (P := Tryz.prog) (W.alloc (.cells #[.int .i64 z] 2)) w.heap.size 22 22 2 i0 _ 1 8 Tryz.underlying22 hi0 hz0 hz1 hz2 rfl (by omega) (.slice A n ca) la.length (la.map (Value.int .i64)) hoa ⟨W.heap.size, 0, none⟩ 1 1 [.int .i64 z] rfl
    (fun j u hu => by
      rw [Addr.add_mid, Nat.zero_add]
      exact hbx.cell j u (by simpa using hu)) (by simp [Value.oneCell']) (by unfold maxLen; omega) (by omega) (Nat.le_trans hbw (below_alloc W _).size)
  have ho : OwnN w' w.heap.size v' (la ++ [z]) := by
    unfold OwnN
    rw [List.length_append, List.map_append]
    exact h2
  obtain ⟨A', c', e⟩ : ∃ A' c', v' = .slice A' (n + 1) c' := by
    rcases ho.2 with ⟨_, h0⟩ | ⟨g, cap, cur, hv, _⟩
    · simp at h0
    · exact ⟨_, cap, by rw [hv, List.length_append, hna]; rfl⟩
  subst e
  have hblk : ∀ k, k < W.heap.size → (∀ x, A = some x → x.block ≠ k) → w'.heap[k]? = W.heap[k]? := fun k hk hx => by
    rw [h3.block k (Nat.lt_of_lt_of_le hk (below_alloc W _).size) (fun e => by
      cases A with
      | none => cases e
      | some ad => exact hx ad rfl (Option.some.inj e).symm)]
    exact heap_alloc_old _ _ hk
  refine ⟨_, w', h1, A', c', rfl, ?_, by rw [List.length_append, hna]; rfl, h.nb, ho, h.ob.blocks fun ad e hlt => hblk _ hlt fun x hx => h.ap x ad hx e, ?_⟩
  · have hbl : Below w.heap.size W w' := ⟨h3.os, h3.tape, h3.output, Nat.le_trans (below_alloc W _).size h3.size, fun k hk => hblk k (Nat.lt_of_lt_of_le hk hbw) fun x hx => by have := (h.oa.place x hx).1; omega⟩
    exact h.bel.trans hbl
  · intro x y e1 e2
    have hy := h.ob.place y e2
    rcases h5 with h5 | h5
    · cases A with
      | none => rw [e1] at h5; cases h5
      | some ad =>
        rw [e1] at h5
        have : x.block = ad.block := Option.some.inj h5
        rw [this]
        exact h.ap ad y rfl e2
    · rw [e1] at h5
      have : x.block = (W.alloc (.cells #[.int .i64 z] 2)).heap.size := Option.some.inj h5
      have := (below_alloc W (.cells #[.int .i64 z] 2)).size
      omega

theorem rsum_at {W : World} {A : Option Addr} {n c : Nat} {l : List Int} {a e0 : Int} (h : IntsAt W A l) (hl : l.length = n) (hn : n ≤ 1000) (hr : Grp.sumS l = (a, e0)) :
    Calls Tryz.prog 134 #[.slice A n c] W fun e w' => e = .returned (.tuple #[.int .i64 a, .int .i64 e0]) ∧ W = w' := by
  subst hl
  have h2 := rmon_sum A c l W (by unfold maxLen; omega) h
  rw [hr] at h2
  exact h2

set_option maxHeartbeats 2000000 in
set_option maxRecDepth 100000 in
theorem rsum_val (A : Option Addr) (m c : Nat) (l : List Ld.O) (w : World) (a b e0 : Int) (hr : Ld.sumE l = (a, b, e0)) (hm : l.length = m) (hm2 : m ≤ 1000) (hl : OrdersAt w A l) :
    Calls Tryz.prog 110 #[.slice A m c] w fun e w' => e = .returned (.tuple #[.int .i64 a, .int .i64 b, .int .i64 e0]) ∧ Hid (Below w.heap.size w w') := by
  obtain ⟨x, ex, hx⟩ : ∃ x ex, Grp.sumS (l.map Ld.O.weight) = (x, ex) := ⟨_, _, rfl⟩
  obtain ⟨y, ey, hy⟩ : ∃ y ey, Grp.sumS (l.map Ld.O.volume) = (y, ey) := ⟨_, _, rfl⟩
  have HL := Lib.hid hl
  have HM := Lib.hid hm
  have HSX := Lib.hid hx
  have HSY := Lib.hid hy
  have HR := Lib.hid hr
  have HT0 := Lib.hid (Two.start w)
  have HWL : Hid ((l.map Ld.O.weight).length = m) := by unfold Hid; rw [List.length_map]; exact hm
  have HVL : Hid ((l.map Ld.O.volume).length = m) := by unfold Hid; rw [List.length_map]; exact hm
  clear hl hm hx hy hr
  go_enter Tryz.func110, Tryz.ntmps110
  go_wp2_with fail
  go_loopg [5, 6, 7] m (fun gk s5 s6 s7 Wx => ∃ (W : World) (k : Nat) (P : Option Addr) (cp : Nat) (Q : Option Addr) (cq : Nat), W = Wx ∧ k + gk = m ∧ s5 = .slice P k cp ∧ s6 = .slice Q k cq ∧ s7 = .int .i64 k ∧ Hid (Two w P k cp ((l.map Ld.O.weight).take k) Q k cq ((l.map Ld.O.volume).take k) W))
  case atStart => exact ⟨_, 0, _, 0, _, 0, rfl, by omega, rfl, rfl, rfl, HT0.out⟩
  case round =>
    obtain ⟨W, k, P, cp, Q, cq, rfl, hkg, rfl, rfl, rfl, HT⟩ := hrel
    by_cases hlt : k < m
    · obtain ⟨gk, rfl⟩ : ∃ j, gk = j + 1 := ⟨gk - 1, by omega⟩
      obtain ⟨s, hs⟩ := mlist_at l k (by rw [HM.out]; exact hlt)
      obtain ⟨ad, rfl, hc⟩ := (HL.out.below HT.out.bel).at_ hs
      obtain ⟨c0, c1, c2, c3, c4, c5, c6, c7⟩ := hc
      obtain ⟨a0, a1, a2, a3, a4, a5, a6, a7⟩ := s
      simp only at c0 c1 c2 c3 c4 c5 c6 c7
      have HA1 := Lib.hid (HT.out.put a3 ((l.map Ld.O.weight).take (k + 1)) (k + 1) (by rw [List.take_add_one, List.getElem?_map, hs]; rfl) rfl (by omega))
      have HA2 : Hid (∀ (W1 : World) (P1 : Option Addr) (c1 : Nat), Two w P1 (k + 1) c1 ((l.map Ld.O.weight).take (k + 1)) Q k cq ((l.map Ld.O.volume).take k) W1 → ∃ v' w', (Builtin.append_ #[22, 22] 22 #[.slice Q k cq, .slice (some ⟨W1.heap.size, 0, none⟩) 1 1]).run Tryz.prog (W1.alloc (.cells #[.int .i64 a4] 2)) = .ok v' w' ∧ PutN w (k + 1) ((l.map Ld.O.volume).take (k + 1)) P1 (k + 1) c1 ((l.map Ld.O.weight).take (k + 1)) v' w') := fun W1 P1 c1 h1 =>
        h1.swap.put a4 ((l.map Ld.O.volume).take (k + 1)) (k + 1) (by rw [List.take_add_one, List.getElem?_map, hs]; rfl) rfl (by omega)
      have HC4 : Hid (∀ (W1 : World), Below w.heap.size w W1 → W1.cell? ⟨(ad.add (k * 8)).block, (ad.add (k * 8)).off + 4, none⟩ = some (.int .i64 a4)) := fun W1 hb => by
        obtain ⟨ad', e, hc⟩ := (HL.out.below hb).at_ hs
        obtain rfl := Option.some.inj e
        exact hc.c4
      clear hs c0 c1 c2 c4 c5 c6 c7
      go_wp2_with (first
        | (at_builtin; refine wpList_append_n rfl (.tmp 28) (.tmp 34) 22 22 rfl _ _ rfl rfl _ (HA2.out _ _ _ HP1.out) ?_; intro v2 w2 hap; obtain ⟨A2, q2, rfl, HP2⟩ := hap)
        | (at_builtin; refine wpList_append_n rfl (.tmp 20) (.tmp 26) 22 22 rfl _ _ rfl rfl _ HA1.out ?_; intro v1 w1 hap; obtain ⟨A1, q1, rfl, HP1⟩ := hap; have x4 := HC4.out w1 HP1.out.bel))
      go_roundg gk
      case measure => omega
      case rel => exact ⟨_, k + 1, _, _, _, _, rfl, by omega, rfl, rfl, by first | rfl | go_num, HP2.out.swap⟩
    · have hk : k = m := by omega
      subst hk
      have HB := Lib.hid HT.out.bel
      have ha := HT.out.oa.ints
      have hb := HT.out.ob.ints
      rw [List.take_of_length_le (by rw [HWL.out]; exact Nat.le_refl _)] at ha
      rw [List.take_of_length_le (by rw [HVL.out]; exact Nat.le_refl _)] at hb
      have HC1 := Lib.hid (rsum_at (c := cp) ha HWL.out hm2 HSX.out)
      have HC2 := Lib.hid (rsum_at (c := cq) hb HVL.out hm2 HSY.out)
      clear ha hb HT
      by_cases h1 : ex = 0
      · subst h1
        by_cases h2 : ey = 0
        · subst h2
          have hr := HR.out
          rw [Ld.sum_ok HSX.out HSY.out] at hr
          injection hr with r1 hr
          injection hr with r2 r3
          subst r1 r2 r3
          go_wp2_with (first
            | (go_at_call 134; with_reducible refine HC1.out.mono ?_; rintro e w1 ⟨rfl, rfl⟩)
            | (go_at_call 134; with_reducible refine HC2.out.mono ?_; rintro e w1 ⟨rfl, rfl⟩))
          go_ret3
          exact ⟨rfl, HB.out⟩
        · have hr := HR.out
          rw [Ld.sum_v HSX.out HSY.out h2] at hr
          injection hr with r1 hr
          injection hr with r2 r3
          subst r1 r2 r3
          have d2 : (ey != 0) = true := bne_iff_ne.2 h2
          clear h2
          go_wp2_with (first
            | (go_at_call 134; with_reducible refine HC1.out.mono ?_; rintro e w1 ⟨rfl, rfl⟩)
            | (go_at_call 134; with_reducible refine HC2.out.mono ?_; rintro e w1 ⟨rfl, rfl⟩))
          go_ret3
          exact ⟨rfl, HB.out⟩
      · have hr := HR.out
        rw [Ld.sum_w HSX.out h1] at hr
        injection hr with r1 hr
        injection hr with r2 r3
        subst r1 r2 r3
        have d1 : (ex != 0) = true := bne_iff_ne.2 h1
        clear h1
        go_wp2_with (first
          | (go_at_call 134; with_reducible refine HC1.out.mono ?_; rintro e w1 ⟨rfl, rfl⟩)
          | (go_at_call 134; with_reducible refine HC2.out.mono ?_; rintro e w1 ⟨rfl, rfl⟩))
        go_ret3
        exact ⟨rfl, HB.out⟩

set_option maxHeartbeats 1000000 in
theorem rcar_val (t : Ld.T) (A : Option Addr) (m c : Nat) (l : List Ld.O) (w : World) (r : Int) (hr : Ld.carE t l = r) (hm : l.length = m) (hm2 : m ≤ 1000) (hl : OrdersAt w A l) :
    Calls Tryz.prog 70 #[.agg #[.int .i64 t.id, .int .i64 t.weight, .int .i64 t.volume, .int .i64 t.start, .int .i64 t.fin, .int .i64 t.fixed, .int .i64 t.rate], .slice A m c] w fun e w' => e = .returned (.int .i64 r) ∧ Hid (Below w.heap.size w w') := by
  obtain ⟨a, b, e0, hs⟩ : ∃ a b e0, Ld.sumE l = (a, b, e0) := ⟨_, _, _, rfl⟩
  have HR := Lib.hid hr
  obtain ⟨a0, a1, a2, a3, a4, a5, a6⟩ := t
  have HB0 : Hid (Below w.heap.size w (w.alloc (.cells #[.int .i64 a0, .int .i64 a1, .int .i64 a2, .int .i64 a3, .int .i64 a4, .int .i64 a5, .int .i64 a6] 51))) := below_alloc _ _
  have HX : Hid (Box (w.alloc (.cells #[.int .i64 a0, .int .i64 a1, .int .i64 a2, .int .i64 a3, .int .i64 a4, .int .i64 a5, .int .i64 a6] 51)) w.heap.size #[.int .i64 a0, .int .i64 a1, .int .i64 a2, .int .i64 a3, .int .i64 a4, .int .i64 a5, .int .i64 a6] 51) := Box.new _ _ _
  have HC := Lib.hid (rsum_val A m c l _ a b e0 hs hm hm2 (hl.below HB0.out))
  clear hl hm hr
  by_cases h1 : e0 = 0
  · subst h1
    by_cases h2 : a1 < a
    · have HR2 := Lib.hid (Ld.car_more (t := ⟨a0, a1, a2, a3, a4, a5, a6⟩) hs (.inl h2))
      have d1 : decide (a1 < a) = true := decide_eq_true h2
      clear hs h2
      go_enter Tryz.func70, Tryz.ntmps70
      go_wp2_with fail
      with_reducible refine HC.out.mono ?_
      rintro e w1 ⟨rfl, hb1⟩
      have x1 : w1.cell? ⟨w.heap.size, 1, none⟩ = some (.int .i64 a1) := (HX.out.below hb1.out).cell 1 _ rfl
      go_wp2
      go_ret
      exact ⟨by rw [← HR.out, HR2.out]; rfl, below_next HB0.out hb1.out⟩
    · have d1 : decide (a1 < a) = false := decide_eq_false h2
      by_cases h3 : a2 < b
      · have HR2 := Lib.hid (Ld.car_more (t := ⟨a0, a1, a2, a3, a4, a5, a6⟩) hs (.inr h3))
        have d2 : decide (a2 < b) = true := decide_eq_true h3
        clear hs h2 h3
        go_enter Tryz.func70, Tryz.ntmps70
        go_wp2_with fail
        with_reducible refine HC.out.mono ?_
        rintro e w1 ⟨rfl, hb1⟩
        have x1 : w1.cell? ⟨w.heap.size, 1, none⟩ = some (.int .i64 a1) := (HX.out.below hb1.out).cell 1 _ rfl
        have x2 : w1.cell? ⟨w.heap.size, 2, none⟩ = some (.int .i64 a2) := (HX.out.below hb1.out).cell 2 _ rfl
        go_wp2
        go_ret
        exact ⟨by rw [← HR.out, HR2.out]; rfl, below_next HB0.out hb1.out⟩
      · have HR2 := Lib.hid (Ld.car_ok (t := ⟨a0, a1, a2, a3, a4, a5, a6⟩) hs (by show a ≤ a1; omega) (by show b ≤ a2; omega))
        have d2 : decide (a2 < b) = false := decide_eq_false h3
        clear hs h2 h3
        go_enter Tryz.func70, Tryz.ntmps70
        go_wp2_with fail
        with_reducible refine HC.out.mono ?_
        rintro e w1 ⟨rfl, hb1⟩
        have x1 : w1.cell? ⟨w.heap.size, 1, none⟩ = some (.int .i64 a1) := (HX.out.below hb1.out).cell 1 _ rfl
        have x2 : w1.cell? ⟨w.heap.size, 2, none⟩ = some (.int .i64 a2) := (HX.out.below hb1.out).cell 2 _ rfl
        go_wp2
        go_ret
        exact ⟨by rw [← HR.out, HR2.out]; rfl, below_next HB0.out hb1.out⟩
  · have HR2 := Lib.hid (Ld.car_err (t := ⟨a0, a1, a2, a3, a4, a5, a6⟩) hs h1)
    have d1 : (e0 == 0) = false := by simp [h1]
    clear hs h1
    go_enter Tryz.func70, Tryz.ntmps70
    go_wp2_with fail
    with_reducible refine HC.out.mono ?_
    rintro e w1 ⟨rfl, hb1⟩
    go_wp2
    go_ret
    exact ⟨by rw [← HR.out, HR2.out]; rfl, below_next HB0.out hb1.out⟩
end Go.Proofs.YtjidelfpmlnhkaaGreat
