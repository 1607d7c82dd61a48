/- What LogGoes' walk holds: a log with power and no fuse; a row of records beside it that the law itself appends to. -/
import Derived.Test.YtoocifoglhhnmaaLogOpsK
import Derived.Test.YtoocifoglhhnmaaLogSureT
namespace Go.Proofs.Ytoocifoglhhnmaa
open Go.RowKit
set_option linter.unusedVariables false

namespace Lg
open Dk (Bs D)
/-- a log that goes on, with power and no fuse -/
def Well (n : Nat) (x : L) (d : D) : Prop := Goes n x d ∧ Fine d
theorem app_well {n : Nat} {x : L} {d : D} {b : Bs} (h : Well n x d) :
    ((appS n d x b).2.1 = 0 ∧ Well n (appS n d x b).2.2 (appS n d x b).1 ∧ (appS n d x b).2.2.recs = x.recs ++ [b] ∧ b.length ≤ 200 ∧ secs b.length ≤ n / 2 - x.fin) ∨
    ((appS n d x b).2.1 = 1 ∧ 200 < b.length ∧ (appS n d x b).1 = d ∧ (appS n d x b).2.2 = x) ∨
    ((appS n d x b).2.1 = 4 ∧ b.length ≤ 200 ∧ n / 2 - x.fin < secs b.length ∧ (appS n d x b).1 = d ∧ (appS n d x b).2.2 = x) := by
  obtain ⟨h, hf⟩ := h
  have hst := start_le (n := n) h.clean.hf
  have hfin := h.clean.fin
  have hq := secs_pos b.length
  unfold appS
  rw [if_neg (by rw [h.bro]; decide)]
  by_cases h1 : 200 < b.length
  · rw [if_pos h1]; exact .inr (.inl ⟨rfl, h1, rfl, rfl⟩)
  rw [if_neg h1]
  by_cases h2 : n / 2 - x.fin < secs b.length
  · rw [if_pos h2]; exact .inr (.inr ⟨rfl, by omega, h2, rfl, rfl⟩)
  rw [if_neg h2]
  obtain ⟨i1, i2, i3, i4⟩ := append_keeps h.good h.clean (r := b) (by omega) (by omega)
  obtain ⟨f1, f2⟩ := lay_fine (n := n) (k := start n x.half + x.fin) (l := recd b x.gen x.recs.length) (secs b.length - 1) 1 hf (by omega) (by omega)
  unfold appEnd
  generalize layS n (start n x.half + x.fin) (recd b x.gen x.recs.length) (secs b.length - 1) 1 d = q at *
  rw [if_pos f1]
  exact .inl ⟨rfl, ⟨⟨i3 f1, i1, h.bro⟩, f2⟩, rfl, by omega, by omega⟩
theorem only_well {n : Nat} {x : L} {d : D} {rs : List Bs} (h : Well n x d) :
    ((onlyS n d x rs).2.1 = 0 ∧ Well n (onlyS n d x rs).2.2 (onlyS n d x rs).1 ∧ (onlyS n d x rs).2.2.recs = rs) ∨
    ((onlyS n d x rs).2.1 = 1 ∧ bigB rs = true ∧ (onlyS n d x rs).1 = d ∧ (onlyS n d x rs).2.2 = x) ∨
    ((onlyS n d x rs).2.1 = 4 ∧ (onlyS n d x rs).1 = d ∧ (onlyS n d x rs).2.2 = x) := by
  obtain ⟨h, hf⟩ := h
  have hst := start_le (n := n) (half := 1 - x.half) (by omega)
  unfold onlyS
  rw [if_neg (by rw [h.bro]; decide)]
  by_cases h1 : bigB rs = true
  · rw [if_pos h1]; exact .inr (.inl ⟨rfl, h1, rfl, rfl⟩)
  rw [if_neg h1]
  by_cases h2 : n / 2 < 1 + sumSecs rs
  · rw [if_pos h2]; exact .inr (.inr ⟨rfl, rfl, rfl⟩)
  rw [if_neg h2]
  by_cases h3 : x.gen = 2147483647
  · rw [if_pos h3]; exact .inr (.inr ⟨rfl, rfl, rfl⟩)
  rw [if_neg h3]
  have hg1 := h.clean.g1
  obtain ⟨i1, i2, i3, i4⟩ := fill_keeps h.good h.clean.toOpens (rs := rs) (by omega) (bigB_false (Bool.eq_false_iff.2 h1)) (by omega)
  obtain ⟨f1, f2⟩ := fill_fine (n := n) (s := start n (1 - x.half)) (size := n / 2) (g := x.gen + 1) (rs := rs) hf hst (by omega)
  unfold onlyEnd
  generalize fillS n (start n (1 - x.half)) (n / 2) (x.gen + 1) rs d = q at *
  rw [if_pos f1]
  exact .inl ⟨rfl, ⟨⟨i3 f1, i1, rfl⟩, f2⟩, rfl⟩
theorem open_well {n : Nat} {x : L} {d : D} (h : Well n x d) : (openQ n d).2.1 = 0 ∧ (openQ n d).2.2 = x ∧ Well n x (openQ n d).1 ∧ (openQ n d).1.writes ≤ d.writes + n := by
  obtain ⟨h, hf⟩ := h
  have ho := h.clean.toOpens
  have hst := start_le (n := n) ho.hf
  obtain ⟨k1, k2, k3, k4, k5⟩ := open_keeps h.good ho
  have hc : (openQ n d).2.1 = 0 ∧ Fine (openQ n d).1 := by rw [ho.open_]; exact wipe_fine (n / 2) hf (by omega)
  have hx : (⟨x.half, x.gen, x.recs, x.fin, false⟩ : L) = x := by rw [← h.bro]
  exact ⟨hc.1, by rw [k1, hx], ⟨⟨k5 hc.1, k2, h.bro⟩, hc.2⟩, open_writes ho⟩
theorem fresh_well {n : Nat} (hn : 4 ≤ n) : Well n (openQ n (Dk.fresh n)).2.2 (openQ n (Dk.fresh n)).1 := ⟨(fresh_goes hn).2.1, (open_fresh hn).2.2.2.1⟩
end Lg

theorem big_rep {k : Nat} {l : Dk.Bs} (h : bigB (List.replicate k l) = true) : 200 < l.length := by
  unfold bigB at h
  rw [List.any_eq_true] at h
  obtain ⟨r, hr, hb⟩ := h
  rw [List.mem_replicate] at hr
  rw [hr.2] at hb
  simpa using hb

/-- a log, and a row beside it that is ours -/
structure GW (w W : World) (S : Nat) (F : Nat → Prop) (lb g s n : Nat) (x : Lg.L) (d : Dk.D) (u : Value) (rs : List Dk.Bs) : Prop where
  h : ∃ v, Held W w.heap.size F lb v g s n x d ∧ (∀ i, u.ownBlock = some i → v.ownBlock ≠ some i)
  bel : Below w.heap.size w W
  row : RowsAt W S F u rs
  sep : ∀ i, u.ownBlock = some i → i ≠ lb ∧ ¬ Two g s i
  sz : S ≤ W.heap.size
  sw : w.heap.size ≤ S

theorem GW.ll {w W : World} {S : Nat} {F : Nat → Prop} {lb g s n : Nat} {x : Lg.L} {d : Dk.D} {u : Value} {rs : List Dk.Bs} (h : GW w W S F lb g s n x d u rs) : LL w W F lb g s n x d := by
  obtain ⟨v, h1, _⟩ := h.h
  exact ⟨v, h1, h.bel⟩

theorem gw_records {w W : World} {F : Nat → Prop} {lb g s n : Nat} {x : Lg.L} {d : Dk.D} (h : LL w W F lb g s n x d) :
    Calls Try.prog 25 #[.pointer (some ⟨lb, 0, none⟩)] W fun e w' => ∃ A c F', e = .returned (.slice A x.recs.length c) ∧ GW w w' W.heap.size F' lb g s n x d (.slice A x.recs.length c) x.recs ∧ Below W.heap.size W w' ∧ (∀ i, F' i → F i ∨ W.heap.size ≤ i) := by
  obtain ⟨v, h1, h2⟩ := h
  refine (records_any W w.heap.size lb g n F v x h1.log h1.disk.n1).mono fun e w' ⟨u, e1, f1, f2, A, c, f3⟩ => ?_
  subst f3
  have hlt : ∀ i, Value.ownBlock (.slice A x.recs.length c) = some i → W.heap.size ≤ i ∧ i < w'.heap.size := by
    obtain ⟨vs, ho, _⟩ := f1
    exact fun i hi => ⟨(ho.lt i hi).1, (ho.lt i hi).2⟩
  have hvl : ∀ i, v.ownBlock = some i → i < W.heap.size := by
    obtain ⟨vs, _, hF, _⟩ := h1.log.rows
    exact fun i hi => h1.flt i (hF i hi)
  have hb : Below w.heap.size w w' := h2.trans (f2.mono h2.size)
  refine ⟨A, c, fun i => F i ∨ Value.ownBlock (.slice A x.recs.length c) = some i, e1, ⟨⟨v, ?_, fun i hi hv => ?_⟩, hb, ?_, fun i hi => ⟨?_, ?_⟩, f2.size, h2.size⟩, f2, fun i hi => hi.imp id (fun e => (hlt i e).1)⟩
  · have hrows := (h1.log.rows.wide (G := fun i => F i ∨ Value.ownBlock (.slice A x.recs.length c) = some i) (fun i hi hg => by
      rcases hg with hg | hg
      · exact hg
      · have := (hlt i hg).1; omega) (fun i hi => .inl (by obtain ⟨_, _, hF, _⟩ := h1.log.rows; exact hF i hi))).keep (G := No) (Kept.of_below f2) (fun _ _ => False.elim) (fun _ _ => id)
    refine ⟨⟨(h1.log.below f2).top, hrows, h1.log.good, .inl h1.log.fl, h1.log.ne⟩, h1.disk.below f2, .inl h1.fg, .inl h1.fs, ?_, ?_, hb.size⟩
    · rintro i (hi | hi)
      · exact Nat.lt_of_lt_of_le (h1.flt i hi) f2.size
      · exact (hlt i hi).2
    · rintro i (hi | hi)
      · exact h1.fge i hi
      · exact Nat.le_trans h2.size (hlt i hi).1
  · have a1 := hvl i hv
    have a2 := (hlt i hi).1
    omega
  · exact f1.wide (fun i _ hi => hi.imp (h1.flt i) id) (fun i hi => .inr hi)
  · have a1 := h1.log.lt
    have a2 := (hlt i hi).1
    omega
  · have a1 := h1.disk.ltg
    have a2 := h1.disk.lts
    have a3 := (hlt i hi).1
    rintro (e | e) <;> omega

theorem gw_append {w W : World} {S : Nat} {F : Nat → Prop} {lb g s n : Nat} {x : Lg.L} {d : Dk.D} {u : Value} {rs : List Dk.Bs} (h : GW w W S F lb g s n x d u rs) (hw : d.writes ≤ 900000) (A : Option Addr) (m c : Nat) (b : Dk.Bs) (hm : b.length = m) (hmc : m ≤ c) (hcx : c ≤ maxLen) (hb : BytesIn F W A b) (q : Dk.D × Int × Lg.L) (hq : Lg.appS n d x b = q) :
    Calls Try.prog 16 #[.pointer (some ⟨lb, 0, none⟩), .slice A m c] W fun e w' => ∃ F', e = .returned (.int .i64 q.2.1) ∧ GW w w' S F' lb g s n q.2.2 q.1 u rs ∧ Next F F' W w' := by
  subst hq
  obtain ⟨v, h1, hvu⟩ := h.h
  have hvF : ∀ i, v.ownBlock = some i → F i := by obtain ⟨_, _, hF, _⟩ := h1.log.rows; exact hF
  have huF : ∀ i, u.ownBlock = some i → F i := by obtain ⟨_, _, hF, _⟩ := h.row; exact hF
  refine (append_k W w.heap.size F (fun i => i = lb ∨ Two g s i ∨ v.ownBlock = some i) lb v g s n x d A m c b h1 hw hm hmc (by omega) hb (.inl rfl) (fun i hi => .inr (.inl hi)) (fun i hi => .inr (.inr hi)) (fun i hi => by
    rcases hi with rfl | hi | hi
    · exact h1.log.fl
    · exact h1.two i hi
    · exact hvF i hi)).mono fun e w' ⟨e1, F', v', a1, a2, a3, a4, a5⟩ => ?_
  have hKF : ∀ i, (i = lb ∨ Two g s i ∨ v.ownBlock = some i) → F i := fun i hi => by
    rcases hi with rfl | hi | hi
    · exact h1.log.fl
    · exact h1.two i hi
    · exact hvF i hi
  have hnK : ∀ i, u.ownBlock = some i → ¬ (i = lb ∨ Two g s i ∨ v.ownBlock = some i) := fun i hi hk => by
    rcases hk with e | e | e
    · exact (h.sep i hi).1 e
    · exact (h.sep i hi).2 e
    · exact hvu i hi e
  refine ⟨F', e1, ⟨⟨v', a1, fun i hi hv => ?_⟩, ?_, ?_, h.sep, Nat.le_trans h.sz a2.size, h.sw⟩, ⟨a2.wide (fun i _ => hKF i), a3, a4⟩⟩
  · rcases a5 i hv with hk | hk
    · exact hnK i hi hk
    · have := h1.flt i (huF i hi); omega
  · exact a2.below h.bel h1.hb (fun i hi e => by have := h1.fge i (hKF i e); omega)
  · exact (h.row.wide (fun i hi hf => (a4 i hf).resolve_right (by omega)) (fun i hi => a3 i (huF i hi))).keep a2 (fun i _ hk => a3 i (hKF i hk)) hnK

/-- the law's own append to its row -/
def GoesR (w W : World) (F : Nat → Prop) (lb g s n : Nat) (x : Lg.L) (d : Dk.D) (rs : List Dk.Bs) (m : Nat) (v' : Value) (w' : World) : Prop := ∃ A c, v' = .slice A m c ∧ Hid (LL w w' F lb g s n x d ∧ RowIn (Two g s) w' A rs ∧ Kept F W w')
theorem gw_row {w W : World} {S : Nat} {F : Nat → Prop} {lb g s n : Nat} {x : Lg.L} {d : Dk.D} {u : Value} {rs : List Dk.Bs} (h : GW w W S F lb g s n x d u rs) (hlen : rs.length ≤ 100000) (y : Value) (b : Dk.Bs) (hy : SlIn F W y b) :
    ∃ v' w', (Builtin.append_ #[45, 45] 45 #[u, .slice (some ⟨W.heap.size, 0, none⟩) 1 1]).run Try.prog (W.alloc (.cells #[y] 38)) = .ok v' w' ∧ GoesR w W F lb g s n x d (rs ++ [b]) (rs.length + 1) v' w' := by
  obtain ⟨v6, w6, k1, k2, k3, k4, k5, A, c, rfl⟩ := rows_app W S F u rs h.row h.sz hlen y b hy
  obtain ⟨v, h1, hvu⟩ := h.h
  have huF : ∀ i, u.ownBlock = some i → F i := by obtain ⟨_, _, hF, _⟩ := h.row; exact hF
  refine ⟨_, w6, k1, A, c, rfl, ⟨v, ?_, ?_⟩, ?_, k3.wide (fun i _ hi => huF i hi)⟩
  · exact ⟨h1.log.keep k3 (fun i _ hi => huF i hi) (fun i hv hu => hvu i hu hv) (fun hu => (h.sep lb hu).1 rfl), h1.disk.keep k3 (fun hu => (h.sep g hu).2 (.inl rfl)) (fun hu => (h.sep s hu).2 (.inr rfl)), h1.fg, h1.fs, fun i hi => Nat.lt_of_lt_of_le (h1.flt i hi) k3.size, h1.fge, Nat.le_trans h1.hb k3.size⟩
  · exact k3.below h.bel h1.hb (fun i hi e => by have := h1.fge i (huF i e); omega)
  · obtain ⟨A', c', e2, _, _, hrow⟩ := k2.slice
    injection e2 with e3 e4 e5
    subst e3
    refine hrow _ (fun i _ hi => .inl (h1.two i hi)) (fun i hi ht => ?_)
    rcases k4 i hi with hu | hu
    · exact (h.sep i hu).2 ht
    · have := h1.flt i (h1.two i ht); omega
end Go.Proofs.Ytoocifoglhhnmaa
