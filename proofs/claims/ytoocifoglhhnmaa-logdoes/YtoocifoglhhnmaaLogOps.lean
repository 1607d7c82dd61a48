/- Contracts of package log: Append and Only. -/
import Derived.Test.YtoocifoglhhnmaaLogTop
import Derived.Deep.RegionLaw
namespace Go.Proofs.Ytoocifoglhhnmaa
open Go.RowKit
set_option linter.unusedVariables false

namespace Lg
def appEnd (x : L) (b : Dk.Bs) (q : Dk.D × Int) : Dk.D × Int × L :=
  if q.2 = 0 then (q.1, 0, { x with recs := x.recs ++ [b], fin := x.fin + secs b.length }) else (q.1, q.2, { x with bro := true })
def appS (n : Nat) (d : Dk.D) (x : L) (b : Dk.Bs) : Dk.D × Int × L :=
  if x.bro = true then (d, 7, x) else if 200 < b.length then (d, 1, x) else if n / 2 - x.fin < secs b.length then (d, 4, x)
  else appEnd x b (layS n (start n x.half + x.fin) (recd b x.gen x.recs.length) (secs b.length - 1) 1 d)
def onlyEnd (x : L) (rs : List Dk.Bs) (q : Dk.D × Int) : Dk.D × Int × L :=
  if q.2 = 0 then (q.1, 0, ⟨1 - x.half, x.gen + 1, rs, 1 + sumSecs rs, false⟩) else (q.1, q.2, { x with bro := true })
def onlyS (n : Nat) (d : Dk.D) (x : L) (rs : List Dk.Bs) : Dk.D × Int × L :=
  if x.bro = true then (d, 7, x) else if bigB rs = true then (d, 1, x) else if n / 2 < 1 + sumSecs rs then (d, 4, x) else if x.gen = 2147483647 then (d, 4, x)
  else onlyEnd x rs (fillS n (start n (1 - x.half)) (n / 2) (x.gen + 1) rs d)
end Lg

/-- a log and its disk -/
structure Held (W : World) (base : Nat) (F : Nat → Prop) (lb : Nat) (v : Value) (g s n : Nat) (x : Lg.L) (d : Dk.D) : Prop where
  log : LogIn W base F lb v g n x
  disk : DiskAt W g s n d
  fg : F g
  fs : F s
  flt : ∀ i, F i → i < W.heap.size
  fge : ∀ i, F i → base ≤ i
  hb : base ≤ W.heap.size

theorem LogIn.ng {W : World} {base lb g n : Nat} {F : Nat → Prop} {v : Value} {x : Lg.L} (h : LogIn W base F lb v g n x) {s : Nat} {d : Dk.D} (hd : DiskAt W g s n d) : ¬ Two g s lb := by
  rintro (e | e)
  · exact blocks_ne h.top hd.top (by decide) e
  · exact blocks_ne h.top hd.row (by decide) e
theorem LogIn.nv {W : World} {base lb g n : Nat} {F : Nat → Prop} {v : Value} {x : Lg.L} (h : LogIn W base F lb v g n x) {s : Nat} {d : Dk.D} (hd : DiskAt W g s n d) : ∀ i, v.ownBlock = some i → ¬ Two g s i := by
  obtain ⟨vs, ho, _⟩ := h.rows
  rintro i hi (e | e)
  · subst e; exact own_ne ho hd.top (by decide) hi.symm
  · subst e; exact own_ne ho hd.row (by decide) hi.symm
theorem Held.two {W : World} {base lb g s n : Nat} {F : Nat → Prop} {v : Value} {x : Lg.L} {d : Dk.D} (h : Held W base F lb v g s n x d) : ∀ i, Two g s i → F i := by
  rintro i (e | e)
  · rw [e]; exact h.fg
  · rw [e]; exact h.fs
/-- the disk turns -/
theorem Held.turn {W W' : World} {base lb g s n : Nat} {F : Nat → Prop} {v : Value} {x : Lg.L} {d d' : Dk.D} (h : Held W base F lb v g s n x d) (hd : DiskAt W' g s n d') (hk : Kept (Two g s) W W') : Held W' base F lb v g s n x d' :=
  ⟨h.log.keep hk (fun i _ => h.two i) (h.log.nv h.disk) (h.log.ng h.disk), hd, h.fg, h.fs, fun i hi => Nat.lt_of_lt_of_le (h.flt i hi) hk.size, h.fge, Nat.le_trans h.hb hk.size⟩
theorem Held.below {W W' : World} {base lb g s n : Nat} {F : Nat → Prop} {v : Value} {x : Lg.L} {d : Dk.D} (h : Held W base F lb v g s n x d) (hb : Below W.heap.size W W') : Held W' base F lb v g s n x d :=
  h.turn (h.disk.below hb) (Kept.of_below hb)
theorem Held.drew {W : World} {base lb g s n : Nat} {F : Nat → Prop} {v : Value} {x : Lg.L} {d : Dk.D} (h : Held W base F lb v g s n x d) : Held W.drew base F lb v g s n x d :=
  ⟨⟨h.log.top, h.log.rows, h.log.good, h.log.fl, h.log.ne⟩, h.disk.drew, h.fg, h.fs, h.flt, h.fge, h.hb⟩
/-- one field of the struct is set -/
theorem Held.set {W : World} {base lb g s n : Nat} {F : Nat → Prop} {v v' : Value} {x x' : Lg.L} {d : Dk.D} (h : Held W base F lb v g s n x d) (k : Nat) (u : Value) (he : (logCells g n x v).setIfInBounds k u = logCells g n x' v')
    (hr : RowsAt W base F v' x'.recs) (hg : Lg.LGood n x') (hne : ∀ i, v'.ownBlock = some i → i ≠ lb) : Held (W.setCell ⟨lb, k, none⟩ u) base F lb v' g s n x' d := by
  have hk : Kept (fun i => i = lb) W (W.setCell ⟨lb, k, none⟩ u) := (Kept.refl (fun i => i = lb) W).setCell (p := ⟨lb, k, none⟩) (.inl rfl) u
  have hng := h.log.ng h.disk
  refine ⟨⟨?_, hr.keep hk (fun i _ e => by rw [e]; exact h.log.fl) (fun i hi e => hne i hi e), hg, h.log.fl, hne⟩, h.disk.keep hk (fun e => hng (.inl e.symm)) (fun e => hng (.inr e.symm)), h.fg, h.fs, fun i hi => Nat.lt_of_lt_of_le (h.flt i hi) hk.size, h.fge, Nat.le_trans h.hb hk.size⟩
  rw [setCell_eq_setRow W lb k _ _ _ u h.log.top, ← he]
  exact setRow_heap W lb _ _ _ _ h.log.top
/-- the row, made anew or longer, is laid into the struct -/
theorem held_row {w : World} {base lb g s n : Nat} {F : Nat → Prop} {v v' : Value} {x x' : Lg.L} {d : Dk.D} (ht : w.heap[lb]? = some (.cells (logCells g n x v) 67 (0, 0))) (hd : DiskAt w g s n d) (hr : RowsAt w base F v' x'.recs) (he : (logCells g n x v).setIfInBounds 7 v' = logCells g n x' v') (hg : Lg.LGood n x')
    (fl : F lb) (fg : F g) (fs : F s) (flt : ∀ i, F i → i < w.heap.size) (fge : ∀ i, F i → base ≤ i) (hb : base ≤ w.heap.size) : Held (w.setCell ⟨lb, 7, none⟩ v') base F lb v' g s n x' d := by
  have hk : Kept (fun i => i = lb) w (w.setCell ⟨lb, 7, none⟩ v') := (Kept.refl (fun i => i = lb) w).setCell (p := ⟨lb, 7, none⟩) (.inl rfl) v'
  have hne : ∀ i, v'.ownBlock = some i → i ≠ lb := by
    obtain ⟨vs, ho, _⟩ := hr
    rintro i hi e
    subst e
    exact own_ne ho ht (by decide) hi.symm
  refine ⟨⟨?_, hr.keep hk (fun i _ e => by rw [e]; exact fl) (fun i hi e => hne i hi e), hg, fl, hne⟩, hd.keep hk (fun e => blocks_ne ht hd.top (by decide) e.symm) (fun e => blocks_ne ht hd.row (by decide) e.symm), fg, fs, fun i hi => Nat.lt_of_lt_of_le (flt i hi) hk.size, fge, Nat.le_trans hb hk.size⟩
  rw [setCell_eq_setRow w lb 7 _ _ _ v' ht, ← he]
  exact setRow_heap w lb _ _ _ _ ht
theorem kept_lb {W : World} {F : Nat → Prop} {lb k : Nat} {u : Value} (h : F lb) : Kept F W (W.setCell ⟨lb, k, none⟩ u) := (Kept.refl F W).setCell (p := ⟨lb, k, none⟩) (.inl h) u

/-- what a call that appends leaves -/
def After (W : World) (base : Nat) (F : Nat → Prop) (lb g s n : Nat) (q : Dk.D × Int × Lg.L) (w' : World) : Prop :=
  ∃ F' v', Held w' base F' lb v' g s n q.2.2 q.1 ∧ Kept F W w' ∧ (∀ i, F i → F' i) ∧ (∀ i, F' i → F i ∨ W.heap.size ≤ i)
theorem After.of {W w' : World} {base : Nat} {F : Nat → Prop} {lb g s n : Nat} {q : Dk.D × Int × Lg.L} {v' : Value} (h : Held w' base F lb v' g s n q.2.2 q.1) (hk : Kept F W w') : After W base F lb g s n q w' := ⟨F, v', h, hk, fun _ => id, fun _ => .inl⟩

theorem good_bro {n : Nat} {x : Lg.L} (h : Lg.LGood n x) : Lg.LGood n { x with bro := true } := ⟨h.half, h.g0, h.g1, h.fin, h.cnt, h.len⟩

/-- append of a copy of b to the row: what comes of it -/
def RowEnd (W : World) (base : Nat) (F : Nat → Prop) (lb g s n : Nat) (q : Dk.D × Int × Lg.L) (v : Value) (v6 : Value) (w6 : World) : Prop :=
  ∃ A' c', v6 = .slice A' q.2.2.recs.length c' ∧ w6.cell? ⟨lb, 7, none⟩ = some v ∧ w6.frozen? ⟨lb, 7, none⟩ = false ∧ Hid (After W base F lb g s n q (w6.setCell ⟨lb, 7, none⟩ v6))

theorem row_end (W w5 : World) (base : Nat) (F : Nat → Prop) (lb : Nat) (v : Value) (g s n : Nat) (x : Lg.L) (d : Dk.D) (e : Int) (u : Value) (b : Dk.Bs) (h : Held w5 base F lb v g s n x d) (hk : Kept F W w5) (hu : SlIn F w5 u b) (hb : b.length ≤ 200) (hc : 2 + x.recs.length ≤ x.fin) (hn : n ≤ 4096) :
    ∃ v6 w6, (Builtin.append_ #[45, 45] 45 #[v, .slice (some ⟨w5.heap.size, 0, none⟩) 1 1]).run Try.prog (w5.alloc (.cells #[u] 38)) = .ok v6 w6 ∧ RowEnd W base F lb g s n (d, e, { x with recs := x.recs ++ [b] }) v v6 w6 := by
  have hfin := h.log.good.fin
  obtain ⟨v6, w6, h1, h2, h3, h4, h5, A', c', rfl⟩ := rows_app w5 base F v x.recs h.log.rows h.hb (by omega) u b hu
  have hF : ∀ i, v.ownBlock = some i → F i := by obtain ⟨vs, _, hF, _⟩ := h.log.rows; exact hF
  have htop : w6.heap[lb]? = some (.cells (logCells g n x v) 67 (0, 0)) := (h3.block lb h.log.lt (fun e => h.log.ne lb e rfl)).trans h.log.top
  have hgood : Lg.LGood n { x with recs := x.recs ++ [b] } := ⟨h.log.good.half, h.log.good.g0, h.log.good.g1, hfin, by simp; omega, fun r hr => by
    simp only [List.mem_append, List.mem_singleton] at hr
    rcases hr with hr | hr
    · exact h.log.good.len r hr
    · rw [hr]; exact hb⟩
  refine ⟨_, w6, h1, A', c', by simp, ?_, ?_, ?_⟩
  · rw [cell_of_row w6 lb 7 _ _ _ htop]; rfl
  · unfold World.frozen?; rw [htop]; simp
  · refine ⟨fun i => F i ∨ Value.ownBlock (.slice A' (x.recs.length + 1) c') = some i, .slice A' (x.recs.length + 1) c', ?_, ?_, fun _ => .inl, ?_⟩
    · refine held_row (x := x) (x' := { x with recs := x.recs ++ [b] }) htop (h.disk.keep h3 (fun e => h.log.nv h.disk g e (.inl rfl)) (fun e => h.log.nv h.disk s e (.inr rfl))) h2 rfl hgood (.inl h.log.fl) (.inl h.fg) (.inl h.fs) ?_ ?_ (Nat.le_trans h.hb h3.size)
      · rintro i (hi | hi)
        · exact Nat.lt_of_lt_of_le (h.flt i hi) h3.size
        · exact (h5 i hi).1
      · rintro i (hi | hi)
        · exact h.fge i hi
        · exact (h5 i hi).2
    · exact (hk.trans (h3.wide (fun i _ e => hF i e))).trans (kept_lb h.log.fl)
    · rintro i (hi | hi)
      · exact .inl hi
      · rcases h4 i hi with hi | hi
        · exact .inl (hF i hi)
        · exact .inr (Nat.le_trans hk.size hi)

set_option maxHeartbeats 4000000 in
set_option maxRecDepth 100000 in
theorem append_any (W : World) (base : Nat) (F : Nat → Prop) (lb : Nat) (v : Value) (g s n : Nat) (x : Lg.L) (d : Dk.D) (A : Option Addr) (m c : Nat) (b : Dk.Bs) (h : Held W base F lb v g s n x d) (hw : d.writes ≤ 900000) (hm : b.length = m) (hmc : m ≤ c) (hmx : m ≤ maxLen) (hb : BytesIn F W A b) :
    Calls Try.prog 16 #[.pointer (some ⟨lb, 0, none⟩), .slice A m c] W fun e w' => e = .returned (.int .i64 (Lg.appS n d x b).2.1) ∧ After W base F lb g s n (Lg.appS n d x b) w' := by
  unfold maxLen at hmx
  have c9 := h.log.c9
  have hn1 := h.disk.n1
  by_cases h1 : x.bro = true
  · have HE : Hid (Lg.appS n d x b = (d, 7, x)) := by unfold Hid Lg.appS; rw [if_pos h1]
    have H := Lib.hid h
    rw [h1] at c9
    clear h h1 hb
    go_enter Try.func16, Try.ntmps16
    go_wp2
    go_ret
    exact ⟨by rw [HE.out]; rfl, by rw [HE.out]; exact After.of H.out (Kept.refl _ _)⟩
  rw [Bool.eq_false_iff.2 h1] at c9
  by_cases h2 : 200 < m
  · have HE : Hid (Lg.appS n d x b = (d, 1, x)) := by unfold Hid Lg.appS; rw [if_neg h1, if_pos (by omega)]
    have H := Lib.hid h
    have d1 : decide ((200 : Int) < (m : Int)) = true := decide_eq_true (by omega)
    clear h h1 hb
    go_enter Try.func16, Try.ntmps16
    go_wp2
    go_ret
    exact ⟨by rw [HE.out]; rfl, by rw [HE.out]; exact After.of H.out (Kept.refl _ _)⟩
  have d1 : decide ((200 : Int) < (m : Int)) = false := decide_eq_false (by omega)
  have hq1 := Lg.secs_pos m
  have hq7 := Lg.secs_le m (by omega)
  have HSQ : Hid (∀ W : World, Calls Try.prog 42 #[.int .i64 m] W fun e w' => e = .returned (.int .i64 (Lg.secs m : Nat)) ∧ W = w') := fun W => sectorsOf_any m W (by omega)
  have HLE := Lib.hid (left_any W base lb g n F v x h.log hn1)
  by_cases h3 : n / 2 - x.fin < Lg.secs m
  · have HE : Hid (Lg.appS n d x b = (d, 4, x)) := by unfold Hid Lg.appS; rw [if_neg h1, if_neg (by omega), hm, if_pos h3]
    have H := Lib.hid h
    have HD : Hid (∀ q, Held (W.drewN q) base F lb v g s n x d) := fun q => h.below ⟨rfl, rfl, rfl, Nat.le_refl _, fun _ _ => rfl⟩
    have d2 : decide (((n / 2 - x.fin : Nat) : Int) < (Lg.secs m : Int)) = true := decide_eq_true (by omega)
    have d3 : decide (n / 2 - x.fin < Lg.secs m) = true := decide_eq_true h3
    clear h h1 hb h3
    generalize Lg.secs m = q at *
    generalize n / 2 - x.fin = lf at *
    go_enter Try.func16, Try.ntmps16
    go_wp2_with (first | (go_at_call 42; refine (HSQ.out _).mono ?_; rintro e w' ⟨rfl, rfl⟩) | (go_at_call 26; refine HLE.out.mono ?_; rintro e w1 ⟨rfl, qq, rfl⟩))
    go_ret
    exact ⟨by rw [HE.out]; rfl, by rw [HE.out]; exact After.of (HD.out _) ((Kept.refl _ _).drewN _)⟩
  have d2 : decide (((n / 2 - x.fin : Nat) : Int) < (Lg.secs m : Int)) = false := decide_eq_false (by omega)
  have d3 : decide (n / 2 - x.fin < Lg.secs m) = false := decide_eq_false h3
  have HE : Hid (Lg.appS n d x b = Lg.appEnd x b (Lg.layS n (Lg.start n x.half + x.fin) (Lg.recd b x.gen x.recs.length) (Lg.secs m - 1) 1 d)) := by unfold Hid Lg.appS; rw [if_neg h1, if_neg (by omega), hm, if_neg h3]
  obtain ⟨A7, c7, hv7, hv7a, hv7b, hv7c⟩ := h.log.rows.slice
  obtain ⟨g0, g1, fin, cnt, hlen, half⟩ : 1 ≤ x.gen ∧ x.gen ≤ 2147483647 ∧ x.fin ≤ n / 2 ∧ 1 + x.recs.length ≤ x.fin ∧ (∀ r ∈ x.recs, r.length ≤ 200) ∧ x.half ≤ 1 := ⟨h.log.good.g0, h.log.good.g1, h.log.good.fin, h.log.good.cnt, h.log.good.len, h.log.good.half⟩
  have hst := Lg.start_le (n := n) half
  -- behind Left
  have HW1 : Hid (∀ q, Held (W.drewN q) base F lb v g s n x d ∧ BytesIn F (W.drewN q) A b ∧ Kept F W (W.drewN q)) := fun q => ⟨h.below ⟨rfl, rfl, rfl, Nat.le_refl _, fun _ _ => rfl⟩, hb, (Kept.refl _ _).drewN _⟩
  subst hv7
  have hgood := h.log.good
  clear h hb hv7c
  have hm' := hm
  have HMB : Hid (b.length = m) := hm
  go_enter Try.func16, Try.ntmps16
  go_wp2_with (first | (go_at_call 42; refine (HSQ.out _).mono ?_; rintro e w' ⟨rfl, rfl⟩) | (go_at_call 26; refine HLE.out.mono ?_; rintro e w1 ⟨rfl, qq, rfl⟩))
  obtain ⟨h, hb, hk1⟩ := HW1.out qq
  clear HW1 HLE c9 d1 d2 d3
  generalize W.drewN qq = W1 at *
  have HK1 := Lib.hid hk1
  clear hk1
  have c0 := h.log.c0
  have c1 := h.log.c1
  have c2 := h.log.c2
  have c6 := h.log.c6
  have c7' := h.log.c7
  have c8 := h.log.c8
  have HRO : Hid (Calls Try.prog 44 #[.slice A m c, .int .i64 (x.gen : Nat), .int .i64 (x.recs.length : Nat)] W1.drew fun e w' => e = .returned (.slice (some ⟨W1.heap.size, 0, none⟩) (32 * Lg.secs m) (32 * Lg.secs m)) ∧ (w'.cell? ⟨lb, 0, none⟩ = some (.pointer (some ⟨g, 0, none⟩)) ∧ w'.cell? ⟨lb, 1, none⟩ = some (.int .i64 (Lg.start n x.half : Nat)) ∧ w'.cell? ⟨lb, 2, none⟩ = some (.int .i64 (n / 2 : Nat)) ∧ w'.cell? ⟨lb, 6, none⟩ = some (.int .i64 (x.gen : Nat)) ∧ w'.cell? ⟨lb, 7, none⟩ = some (.slice A7 x.recs.length c7) ∧ w'.cell? ⟨lb, 8, none⟩ = some (.int .i64 (x.fin : Nat))) ∧
      Hid (Blk w' W1.heap.size (Lg.recd b x.gen x.recs.length)) ∧ Hid (Below W1.heap.size W1 w')) := by
    refine (recordOf_any A m c x.gen x.recs.length b W1.drew hm' hmc (by omega) (by omega) (by omega) (bytes_no hb)).mono fun _ w' ⟨e1, e2, e3⟩ => ?_
    have e3' : Below W1.heap.size W1 w' := ⟨e3.os, e3.tape, e3.output, e3.size, e3.block⟩
    have hx := (h.below e3').log
    exact ⟨e1, ⟨hx.c0, hx.c1, hx.c2, hx.c6, hx.c7, hx.c8⟩, e2, e3'⟩
  have HLA : Hid (∀ w2, Hid (Blk w2 W1.heap.size (Lg.recd b x.gen x.recs.length)) → Hid (Below W1.heap.size W1 w2) → Calls Try.prog 43 #[.agg #[.pointer (some ⟨g, 0, none⟩), .int .i64 (Lg.start n x.half : Nat), .int .i64 (n / 2 : Nat)], .int .i64 (x.fin : Nat), .slice (some ⟨W1.heap.size, 0, none⟩) (32 * Lg.secs m) (32 * Lg.secs m)] w2 fun e w' => e = .returned (.int .i64 (Lg.layS n (Lg.start n x.half + x.fin) (Lg.recd b x.gen x.recs.length) (Lg.secs m - 1) 1 d).2) ∧ (w'.cell? ⟨lb, 0, none⟩ = some (.pointer (some ⟨g, 0, none⟩)) ∧ w'.cell? ⟨lb, 1, none⟩ = some (.int .i64 (Lg.start n x.half : Nat)) ∧ w'.cell? ⟨lb, 2, none⟩ = some (.int .i64 (n / 2 : Nat)) ∧ w'.cell? ⟨lb, 6, none⟩ = some (.int .i64 (x.gen : Nat)) ∧ w'.cell? ⟨lb, 7, none⟩ = some (.slice A7 x.recs.length c7) ∧ w'.cell? ⟨lb, 8, none⟩ = some (.int .i64 (x.fin : Nat))) ∧
      Hid (Held w' base F lb (.slice A7 x.recs.length c7) g s n x (Lg.layS n (Lg.start n x.half + x.fin) (Lg.recd b x.gen x.recs.length) (Lg.secs m - 1) 1 d).1 ∧ Kept F W w' ∧ BytesIn F w' A b)) := fun w2 hb2 hk2 => by
    have h2' := h.below hk2.out
    have hng : ¬ Two g s W1.heap.size := by
      have := h.disk.ltg
      have := h.disk.lts
      rintro (e | e) <;> omega
    refine (hlay_any g s n (Lg.start n x.half) (n / 2) x.fin (Lg.secs m) d (some ⟨W1.heap.size, 0, none⟩) (32 * Lg.secs m) (32 * Lg.secs m) (Lg.recd b x.gen x.recs.length) w2 h2'.disk hq1 (by omega) (by omega) (by rw [Lg.recd_len, hm']) rfl (Nat.le_refl _) (hb2.out.bytes hng)).mono fun _ w' ⟨e1, e2, e3⟩ => ?_
    have h3' := h2'.turn e2 e3
    have hx := h3'.log
    have hkF : Kept F W1 w' := (Kept.of_below hk2.out).trans (e3.wide (fun i _ => h.two i))
    exact ⟨e1, ⟨hx.c0, hx.c1, hx.c2, hx.c6, hx.c7, hx.c8⟩, h3', HK1.out.trans hkF, CellsIn.keep hb hkF⟩
  have hlb : lb < W1.heap.size := h.log.lt
  clear h hb hm hm'
  generalize hz : Lg.layS n (Lg.start n x.half + x.fin) (Lg.recd b x.gen x.recs.length) (Lg.secs m - 1) 1 d = z at *
  clear hz
  generalize hrb : Lg.recd b x.gen x.recs.length = rb at *
  clear hrb
  generalize hq : Lg.secs m = q at *
  have HQ := Lib.hid hq
  clear hq
  go_wp2_with fail
  go_region_held3 (fun w' => w'.cell? ⟨lb, 0, none⟩ = some (.pointer (some ⟨g, 0, none⟩)) ∧ w'.cell? ⟨lb, 1, none⟩ = some (.int .i64 (Lg.start n x.half : Nat)) ∧ w'.cell? ⟨lb, 2, none⟩ = some (.int .i64 (n / 2 : Nat)) ∧ w'.cell? ⟨lb, 6, none⟩ = some (.int .i64 (x.gen : Nat)) ∧ w'.cell? ⟨lb, 7, none⟩ = some (.slice A7 x.recs.length c7) ∧ w'.cell? ⟨lb, 8, none⟩ = some (.int .i64 (x.fin : Nat)))
    (first | exact hs3 | exact hs2 | exact ⟨c0, c1, c2, c6, c7', c8⟩)
    (first
      | (go_at_call 43; refine (HLA.out _ hb2 hk2).mono ?_; rintro e w3 ⟨rfl, hs3, hr3⟩)
      | (go_at_call 44; refine HRO.out.mono ?_; rintro e w2 ⟨rfl, hs2, hb2, hk2⟩))
  clear hs2 hs3 hb2 hk2 HRO HLA c0 c1 c2 c6 c7' c8
  by_cases hz : z.2 = 0
  case neg =>
    have HE2 : Hid (Lg.appS n d x b = (z.1, z.2, { x with bro := true })) := by have := HE.out; unfold Lg.appEnd at this; rw [if_neg hz] at this; exact this
    have d4 : (z.2 != 0) = true := bne_iff_ne.2 hz
    have c9 := hr3.out.1.log.c9
    have f9 := hr3.out.1.log.fz 9
    clear HE
    go_wp2
    go_ret
    refine ⟨by rw [HE2.out]; rfl, ?_⟩
    rw [HE2.out]
    exact After.of (hr3.out.1.set 9 (.bool true) rfl hr3.out.1.log.rows (good_bro hgood) hr3.out.1.log.ne) (hr3.out.2.1.trans (kept_lb hr3.out.1.log.fl))
  have HE2 : Hid (Lg.appS n d x b = (z.1, 0, { x with recs := x.recs ++ [b], fin := x.fin + Lg.secs b.length })) := by have := HE.out; unfold Lg.appEnd at this; rw [if_pos hz] at this; exact this
  have d4 : (z.2 != 0) = false := by rw [hz]; rfl
  have e8 : w3.drew.cell? ⟨lb, 8, none⟩ = some (.int .i64 (x.fin : Nat)) := hr3.out.1.log.c8
  have f8 : w3.drew.frozen? ⟨lb, 8, none⟩ = false := hr3.out.1.log.fz 8
  have hw8 : IntKind.i64.wrap ((x.fin : Int) + (q : Int)) = (x.fin : Int) + (q : Int) := by rw [IntKind.wrap_i64]; omega
  clear HE
  go_wp2_with fail
  have HSW : Hid (∀ W : World, Calls Try.prog 42 #[.int .i64 m] W fun e w' => e = .returned (.int .i64 (q : Nat)) ∧ w' = W) := fun W => (HSQ.out W).mono fun _ _ ⟨e1, e2⟩ => ⟨e1, e2.symm⟩
  have HW4 : Hid (Held ((w3.setCell ⟨lb, 8, none⟩ (.int .i64 ((x.fin : Int) + (q : Int)))).drew) base F lb (.slice A7 x.recs.length c7) g s n { x with fin := x.fin + q } z.1 ∧ Kept F W ((w3.setCell ⟨lb, 8, none⟩ (.int .i64 ((x.fin : Int) + (q : Int)))).drew) ∧ BytesIn F ((w3.setCell ⟨lb, 8, none⟩ (.int .i64 ((x.fin : Int) + (q : Int)))).drew) A b) := by
    have e8' : (x.fin : Int) + (q : Int) = ((x.fin + q : Nat) : Int) := by omega
    have hg' : Lg.LGood n { x with fin := x.fin + q } := ⟨half, g0, g1, by simp only; omega, by simp only; omega, hlen⟩
    have hkk : Kept F w3 (w3.setCell ⟨lb, 8, none⟩ (.int .i64 ((x.fin : Int) + (q : Int)))) := kept_lb hr3.out.1.log.fl
    refine ⟨?_, (hr3.out.2.1.trans hkk).drew, CellsIn.keep hr3.out.2.2 hkk.drew⟩
    rw [e8']
    exact (hr3.out.1.set (x' := { x with fin := x.fin + q }) 8 (.int .i64 ((x.fin + q : Nat) : Int)) rfl hr3.out.1.log.rows hg' hr3.out.1.log.ne).drew
  have HCL : Hid (∀ w4, (Held w4 base F lb (.slice A7 x.recs.length c7) g s n { x with fin := x.fin + q } z.1 ∧ Kept F W w4 ∧ BytesIn F w4 A b) → Calls Try.prog 45 #[.slice A m c] w4.drew fun e w5 => ∃ Bu cu, e = .returned (.slice Bu m cu) ∧ w5.cell? ⟨lb, 7, none⟩ = some (.slice A7 x.recs.length c7) ∧ (w5.alloc (.cells #[.slice Bu m cu] 38)).cell? ⟨lb, 7, none⟩ = some (.slice A7 x.recs.length c7) ∧
      Hid (∃ v6 w6, (Builtin.append_ #[45, 45] 45 #[.slice A7 x.recs.length c7, .slice (some ⟨w5.heap.size, 0, none⟩) 1 1]).run Try.prog (w5.alloc (.cells #[.slice Bu m cu] 38)) = .ok v6 w6 ∧ RowEnd W base F lb g s n (Lg.appS n d x b) (.slice A7 x.recs.length c7) v6 w6)) := fun w4 ⟨h4, hk4, hb4⟩ => by
    refine (clone_any A m c b w4.drew HMB.out (by omega) (bytes_no hb4)).mono fun e w5 ⟨u, e1, hcp⟩ => ?_
    have hbel : Below w4.heap.size w4 w5 := by obtain ⟨_, _, _, _, _, _, hx⟩ := hcp; exact ⟨hx.os, hx.tape, hx.output, hx.size, hx.block⟩
    have h5 := h4.below hbel
    have hsl : SlIn F w5 u b := copied_sl (w := w4.drew) (by rw [HMB.out]; exact hcp) F h4.flt
    obtain ⟨Bu, cu, hu, _⟩ := hcp
    subst hu
    have hre := row_end W w5 base F lb _ g s n _ z.1 0 _ b h5 (hk4.trans (Kept.of_below hbel)) hsl (by rw [HMB.out]; omega) (by simp only; omega) hn1
    have hq2 : Lg.appS n d x b = (z.1, 0, { x with recs := x.recs ++ [b], fin := x.fin + q }) := by rw [HE2.out, HMB.out, HQ.out]
    rw [hq2]
    exact ⟨Bu, cu, e1, h5.log.c7, (h5.below ((Below.refl _ _).alloc (Nat.le_refl _) _)).log.c7, hre⟩
  have HRL : Hid ((Lg.appS n d x b).2.1 = 0) := by unfold Hid; rw [HE2.out]
  clear HE2 hr3
  go_region_law (first
    | (go_simp; go_at_call 42; refine (HSW.out _).mono ?_; rintro e w' ⟨rfl, rfl⟩))
  all_goals
    have HC := Lib.hid (HCL.out _ HW4.out)
    have y7 := HW4.out.1.drew.log.c7
    clear HCL HW4 e8 f8 hw8 HSW
    generalize (w3.setCell ⟨lb, 8, none⟩ (.int .i64 ((x.fin : Int) + (q : Int)))).drew = w4 at *
    go_wp2_with fail
    go_region_law (first
      | (refine step_append_run (by rfl) (.tmp 59) (.tmp 62) 45 45 (by rfl) _ _ (by rfl) (by rfl) _ happ.out ?_
         intro v6 w6 hre
         obtain ⟨A6, c6', rfl, hc6, hf6, haf⟩ := hre)
      | (go_simp; go_at_call 45; refine HC.out.mono ?_; rintro e w5 ⟨Bu, cu, rfl, hc5, hc5a, happ⟩))
    all_goals
      go_wp2
      go_ret
      exact ⟨by rw [HRL.out]; rfl, haf.out⟩

end Go.Proofs.Ytoocifoglhhnmaa
