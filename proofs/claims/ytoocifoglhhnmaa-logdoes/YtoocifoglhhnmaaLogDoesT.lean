/- LogDoes: the program's log and the document's, beside one another. -/
import Derived.Test.YtoocifoglhhnmaaLogRefK
import Derived.Test.YtoocifoglhhnmaaLogOnlyK
import Derived.Test.YtoocifoglhhnmaaLogOpenK
namespace Go.Proofs.Ytoocifoglhhnmaa
open Go.RowKit
set_option linter.unusedVariables false

/-- two disks -/
structure Pair (w W : World) (g s g' s' n : Nat) (d e : Dk.D) : Prop where
  run : Run w g s n W d
  rd : RDiskAt W g' s' n e
  hg : w.heap.size ≤ g'
  hs : w.heap.size ≤ s'
  ap : ∀ i, Two g s i → ¬ Two g' s' i
theorem Pair.below {w W W' : World} {g s g' s' n : Nat} {d e : Dk.D} (h : Pair w W g s g' s' n d e) (hb : Below W.heap.size W W') : Pair w W' g s g' s' n d e := ⟨h.run.below hb, h.rd.below hb, h.hg, h.hs, h.ap⟩
theorem Pair.turn1 {w W W' : World} {g s g' s' n : Nat} {d e d' : Dk.D} (h : Pair w W g s g' s' n d e) (hd : DiskAt W' g s n d') (hk : Kept (Two g s) W W') : Pair w W' g s g' s' n d' e :=
  ⟨h.run.step hd hk, h.rd.keep hk (fun x => h.ap _ x (.inl rfl)) (fun x => h.ap _ x (.inr rfl)), h.hg, h.hs, h.ap⟩
theorem Pair.turn2 {w W W' : World} {g s g' s' n : Nat} {d e e' : Dk.D} (h : Pair w W g s g' s' n d e) (hd : RDiskAt W' g' s' n e') (hk : Kept (Two g' s') W W') : Pair w W' g s g' s' n d e' := by
  have h1 := h.hg
  have h2 := h.hs
  exact ⟨⟨h.run.at_.keep hk (fun x => h.ap _ (.inl rfl) x) (fun x => h.ap _ (.inr rfl) x), hk.below h.run.bel h.run.bel.size (fun i hi x => by rcases x with x | x <;> omega), h.run.hg, h.run.hs⟩, hd, h.hg, h.hs, h.ap⟩

theorem Held.keepL {W W' : World} {base lb g s n : Nat} {F G : Nat → Prop} {v : Value} {x : Lg.L} {d : Dk.D} (h : Held W base F lb v g s n x d) (hk : Kept G W W') (hG : ∀ i, G i → F i) (nl : ¬ G lb) (ng : ¬ G g) (ns : ¬ G s) (nv : ∀ i, v.ownBlock = some i → ¬ G i) : Held W' base F lb v g s n x d :=
  ⟨⟨(hk.block lb h.log.lt nl).trans h.log.top, h.log.rows.keep hk (fun i _ => hG i) nv, h.log.good, h.log.fl, h.log.ne⟩, h.disk.keep hk ng ns, h.fg, h.fs, fun i hi => Nat.lt_of_lt_of_le (h.flt i hi) hk.size, h.fge, Nat.le_trans h.hb hk.size⟩
theorem Held.widen {W W' : World} {base lb g s n p : Nat} {F G : Nat → Prop} {v : Value} {x : Lg.L} {d : Dk.D} (h : Held W base F lb v g s n x d) (hk : Kept G W W') (hG : ∀ i, G i → F i) (nl : ¬ G lb) (ng : ¬ G g) (ns : ¬ G s) (nv : ∀ i, v.ownBlock = some i → ¬ G i) (hp : W.heap.size ≤ p) (hp2 : p < W'.heap.size) : Held W' base (fun i => F i ∨ i = p) lb v g s n x d := by
  have hb := h.hb
  have hr : RowsAt W base (fun i => F i ∨ i = p) v x.recs := h.log.rows.wide (fun i hi e => by
    rcases e with e | e
    · exact e
    · omega) (fun i hi => .inl (h.log.rows.choose_spec.2.1 i hi))
  refine ⟨⟨(hk.block lb h.log.lt nl).trans h.log.top, hr.keep hk (fun i _ e => .inl (hG i e)) nv, h.log.good, .inl h.log.fl, h.log.ne⟩, h.disk.keep hk ng ns, .inl h.fg, .inl h.fs, fun i hi => ?_, fun i hi => ?_, Nat.le_trans h.hb hk.size⟩
  · rcases hi with hi | hi
    · exact Nat.lt_of_lt_of_le (h.flt i hi) hk.size
    · omega
  · rcases hi with hi | hi
    · exact h.fge i hi
    · omega

theorem RLog.lbl {W : World} {K : Nat → Prop} {lr g s n : Nat} {y : Lg.L} {e : Dk.D} (h : RLog W K lr g s n y e) : ∀ i, Lb lr g s i → i < W.heap.size := fun i hi => by
  obtain ⟨⟨A, c, ht, _⟩, hd, _⟩ := h
  have h1 := hd.ltg
  have h2 := hd.lts
  have h3 := ht.lt
  rcases hi with (x | x) | x <;> omega
theorem RLog.keep1 {W W' : World} {K K' : Nat → Prop} {lr g s n : Nat} {y : Lg.L} {e : Dk.D} (h : RLog W K lr g s n y e) (hk : Kept K W W') (ap : ∀ i, K i → ¬ Lb lr g s i) (h1 : ∀ i, K i → K' i) (h2 : ∀ i, K' i → K i ∨ W.heap.size ≤ i) : RLog W' K' lr g s n y e := by
  obtain ⟨⟨A, c, ht, hr⟩, hd, hgd⟩ := h
  refine ⟨⟨A, c, ht.keep hk (fun x => ap _ x (.inr rfl)), (RowIn.less (G := fun i => Lb lr g s i ∨ K' i) hr (fun i hi x => ?_)).keep (hk.wide (fun i _ x => .inr (h1 i x)))⟩, hd.keep hk (fun x => ap _ x (.inl (.inl rfl))) (fun x => ap _ x (.inl (.inr rfl))), hgd⟩
  rcases x with x | x
  · exact .inl x
  · rcases h2 i x with x | x
    · exact .inr x
    · omega
theorem RLog.turn2 {W W' : World} {K : Nat → Prop} {lr g s n : Nat} {y : Lg.L} {e e' : Dk.D} (h : RLog W K lr g s n y e) (hd : RDiskAt W' g s n e') (hk : Kept (Two g s) W W') : RLog W' K lr g s n y e' := by
  obtain ⟨⟨A, c, ht, hr⟩, hd0, hgd⟩ := h
  exact ⟨⟨A, c, ht.keep hk (ht.ng hd0), hr.keep (hk.wide (fun i _ x => .inl (.inl x)))⟩, hd, hgd⟩

/-- two logs and their disks: K the program turns, F its records keep clear of -/
structure Logs (w W : World) (F K : Nat → Prop) (v : Value) (lb lr g s g' s' n : Nat) (x : Lg.L) (d : Dk.D) (y : Lg.L) (e : Dk.D) : Prop where
  held : Held W w.heap.size F lb v g s n x d
  bel : Below w.heap.size w W
  kl : K lb
  k2 : ∀ i, Two g s i → K i
  kv : ∀ i, v.ownBlock = some i → K i
  kf : ∀ i, K i → F i
  lf : ∀ i, Lb lr g' s' i → F i
  ap : ∀ i, K i → ¬ Lb lr g' s' i
  rl : RLog W K lr g' s' n y e
theorem Logs.pair {w W : World} {F K : Nat → Prop} {v : Value} {lb lr g s g' s' n : Nat} {x y : Lg.L} {d e : Dk.D} (h : Logs w W F K v lb lr g s g' s' n x d y e) : Pair w W g s g' s' n d e :=
  ⟨⟨h.held.disk, h.bel, h.held.fge g h.held.fg, h.held.fge s h.held.fs⟩, h.rl.disk, h.held.fge g' (h.lf g' (.inl (.inl rfl))), h.held.fge s' (h.lf s' (.inl (.inr rfl))), fun i a b => h.ap i (h.k2 i a) (.inl b)⟩
theorem Logs.ll {w W : World} {F K : Nat → Prop} {v : Value} {lb lr g s g' s' n : Nat} {x y : Lg.L} {d e : Dk.D} (h : Logs w W F K v lb lr g s g' s' n x d y e) : LL w W F lb g s n x d := ⟨v, h.held, h.bel⟩
theorem Logs.turn1 {w W W' : World} {F K : Nat → Prop} {v : Value} {lb lr g s g' s' n : Nat} {x y : Lg.L} {d e d' : Dk.D} (h : Logs w W F K v lb lr g s g' s' n x d y e) (hd : DiskAt W' g s n d') (hk : Kept (Two g s) W W') : Logs w W' F K v lb lr g s g' s' n x d' y e :=
  ⟨h.held.turn hd hk, (h.pair.run.step hd hk).bel, h.kl, h.k2, h.kv, h.kf, h.lf, h.ap, h.rl.keep1 (hk.wide (fun i _ => h.k2 i)) h.ap (fun _ => id) (fun _ => .inl)⟩
theorem Logs.lbge {w W : World} {F K : Nat → Prop} {v : Value} {lb lr g s g' s' n : Nat} {x y : Lg.L} {d e : Dk.D} (h : Logs w W F K v lb lr g s g' s' n x d y e) : ∀ i, Lb lr g' s' i → w.heap.size ≤ i := fun i hi => h.held.fge i (h.lf i hi)
theorem Logs.keepD {w W W' : World} {F K : Nat → Prop} {v : Value} {lb lr g s g' s' n : Nat} {x y : Lg.L} {d e : Dk.D} {y' : Lg.L} {e' : Dk.D} (h : Logs w W F K v lb lr g s g' s' n x d y e) (hk : Kept (Lb lr g' s') W W') (hr : RLog W' K lr g' s' n y' e') : Logs w W' F K v lb lr g s g' s' n x d y' e' :=
  ⟨h.held.keepL hk h.lf (h.ap lb h.kl) (h.ap g (h.k2 g (.inl rfl))) (h.ap s (h.k2 s (.inr rfl))) (fun i hi => h.ap i (h.kv i hi)), hk.below h.bel h.held.hb (fun i hi x => by have := h.lbge i x; omega), h.kl, h.k2, h.kv, h.kf, h.lf, h.ap, hr⟩
theorem Logs.turn2 {w W W' : World} {F K : Nat → Prop} {v : Value} {lb lr g s g' s' n : Nat} {x y : Lg.L} {d e e' : Dk.D} (h : Logs w W F K v lb lr g s g' s' n x d y e) (hd : RDiskAt W' g' s' n e') (hk : Kept (Two g' s') W W') : Logs w W' F K v lb lr g s g' s' n x d y e' :=
  h.keepD (hk.wide (fun i _ => .inl)) (h.rl.turn2 hd hk)
theorem Logs.below {w W W' : World} {F K : Nat → Prop} {v : Value} {lb lr g s g' s' n : Nat} {x y : Lg.L} {d e : Dk.D} (h : Logs w W F K v lb lr g s g' s' n x d y e) (hb : Below W.heap.size W W') : Logs w W' F K v lb lr g s g' s' n x d y e := h.turn1 (h.held.disk.below hb) (Kept.of_below hb)
theorem Logs.mineK {w W W' : World} {F K : Nat → Prop} {v : Value} {lb lr g s g' s' n : Nat} {x y : Lg.L} {d e : Dk.D} (h : Logs w W F K v lb lr g s g' s' n x d y e) (hk : Kept K W W') : Kept (Mine w.heap.size) W W' := hk.wide (fun i _ x => h.held.fge i (h.kf i x))
theorem Logs.mineL {w W W' : World} {F K : Nat → Prop} {v : Value} {lb lr g s g' s' n : Nat} {x y : Lg.L} {d e : Dk.D} (h : Logs w W F K v lb lr g s g' s' n x d y e) (hk : Kept (Lb lr g' s') W W') : Kept (Mine w.heap.size) W W' := hk.wide (fun i _ x => h.lbge i x)

/-- what the program's call leaves -/
def AftL (w W : World) (K : Nat → Prop) (lb lr g s g' s' n : Nat) (q : Dk.D × Int × Lg.L) (y : Lg.L) (e : Dk.D) (w' : World) : Prop := ∃ (F' K' : Nat → Prop) (v' : Value), Logs w w' F' K' v' lb lr g s g' s' n q.2.2 q.1 y e ∧ Kept K W w' ∧ ∀ i, K' i → K i ∨ W.heap.size ≤ i
theorem aft_of {w W w' : World} {F K : Nat → Prop} {v : Value} {lb lr g s g' s' n : Nat} {x y : Lg.L} {d e : Dk.D} {q : Dk.D × Int × Lg.L} (h : Logs w W F K v lb lr g s g' s' n x d y e) (ha : AfterK W w.heap.size F K lb g s n q w') : AftL w W K lb lr g s g' s' n q y e w' := by
  obtain ⟨F', v', a1, a2, a3, a4, a5⟩ := ha
  have hKK : ∀ i, (K i ∨ v'.ownBlock = some i) → K i ∨ W.heap.size ≤ i := fun i hi => by
    rcases hi with hi | hi
    · exact .inl hi
    · exact a5 i hi
  refine ⟨F', fun i => K i ∨ v'.ownBlock = some i, v', ⟨a1, a2.below h.bel h.held.hb (fun i hi x => by have := h.held.fge i (h.kf i x); omega), .inl h.kl, fun i hi => .inl (h.k2 i hi), fun i hi => .inr hi, fun i hi => ?_, fun i hi => a3 i (h.lf i hi), fun i hi x => ?_, h.rl.keep1 a2 h.ap (fun _ => .inl) hKK⟩, a2, hKK⟩
  · rcases hi with hi | hi
    · exact a3 i (h.kf i hi)
    · exact a1.log.rows.choose_spec.2.1 i hi
  · rcases hKK i hi with y | y
    · exact h.ap i y x
    · have := h.rl.lbl i x
      omega

theorem logs_app1 {w W : World} {F K : Nat → Prop} {v : Value} {lb lr g s g' s' n : Nat} {x y : Lg.L} {d e : Dk.D} (h : Logs w W F K v lb lr g s g' s' n x d y e) (hw : d.writes ≤ 900000) (A : Option Addr) (m c : Nat) (b : Dk.Bs) (hm : b.length = m) (hmc : m ≤ c) (hcx : c ≤ maxLen) (hb : BytesIn (Mine w.heap.size) W A b) (q : Dk.D × Int × Lg.L) (hq : Lg.appS n d x b = q) :
    Calls Try.prog 16 #[.pointer (some ⟨lb, 0, none⟩), .slice A m c] W fun r w' => r = .returned (.int .i64 q.2.1) ∧ AftL w W K lb lr g s g' s' n q y e w' := by
  subst hq
  exact (append_k W w.heap.size F K lb v g s n x d A m c b h.held hw hm hmc (by omega) (CellsIn.less hb (fun i _ hi => h.held.fge i hi)) h.kl h.k2 h.kv h.kf).mono fun r w' ⟨e1, e2⟩ => ⟨e1, aft_of h e2⟩
theorem logs_only1 {w W : World} {F K : Nat → Prop} {v : Value} {lb lr g s g' s' n : Nat} {x y : Lg.L} {d e : Dk.D} (h : Logs w W F K v lb lr g s g' s' n x d y e) (hw : d.writes ≤ 900000) (hn4 : 4 ≤ n) (A : Option Addr) (m c : Nat) (rs : List Dk.Bs) (hm : rs.length = m) (hmx : m ≤ 1000) (hb : RowIn F W A rs) (q : Dk.D × Int × Lg.L) (hq : Lg.onlyS n d x rs = q) :
    Calls Try.prog 18 #[.pointer (some ⟨lb, 0, none⟩), .slice A m c] W fun r w' => r = .returned (.int .i64 q.2.1) ∧ AftL w W K lb lr g s g' s' n q y e w' := by
  subst hq
  exact (only_k W w.heap.size F K lb v g s n x d A m c rs h.held hw hn4 hm hmx hb h.kl h.k2 h.kv).mono fun r w' ⟨e1, e2⟩ => ⟨e1, aft_of h e2⟩
theorem logs_app2 {w W : World} {F K : Nat → Prop} {v : Value} {lb lr g s g' s' n : Nat} {x y : Lg.L} {d e : Dk.D} (h : Logs w W F K v lb lr g s g' s' n x d y e) (hw : e.writes ≤ 900000) (A : Option Addr) (m c : Nat) (b : Dk.Bs) (hm : b.length = m) (hmc : m ≤ c) (hcx : c ≤ maxLen) (hb : BytesIn (Mine w.heap.size) W A b) (q : Dk.D × Int × Lg.L) (hq : Lg.appS n e y b = q) :
    Calls Try.prog 17 #[.pointer (some ⟨lr, 0, none⟩), .slice A m c] W fun r w' => r = .returned (.int .i64 q.2.1) ∧ Logs w w' F K v lb lr g s g' s' n x d q.2.2 q.1 ∧ Kept (Lb lr g' s') W w' :=
  (rapp_any K lr g' s' n (n / 2) y e A m c b W (fun i hi => h.held.flt i (h.kf i hi)) h.rl rfl hw hm hmc hcx (CellsIn.less hb (fun i _ hi => h.lbge i hi)) q hq).mono fun r w' ⟨e1, e2, e3⟩ => ⟨e1, h.keepD e3 e2, e3⟩
theorem logs_only2 {w W : World} {F K : Nat → Prop} {v : Value} {lb lr g s g' s' n : Nat} {x y : Lg.L} {d e : Dk.D} (h : Logs w W F K v lb lr g s g' s' n x d y e) (hw : e.writes ≤ 900000) (hn4 : 4 ≤ n) (A : Option Addr) (m c : Nat) (rs : List Dk.Bs) (hm : rs.length = m) (hmx : m ≤ 1000) (hb : RowIn F W A rs) (q : Dk.D × Int × Lg.L) (hq : Lg.onlyS n e y rs = q) :
    Calls Try.prog 20 #[.pointer (some ⟨lr, 0, none⟩), .slice A m c] W fun r w' => r = .returned (.int .i64 q.2.1) ∧ Logs w w' F K v lb lr g s g' s' n x d q.2.2 q.1 ∧ Kept (Lb lr g' s') W w' :=
  (ronly_any K lr g' s' n (n / 2) y e A m c rs W (fun i hi => h.held.flt i (h.kf i hi)) h.rl rfl hn4 hw hm hmx (hb.less (fun i _ hi => h.lf i hi)) q hq).mono fun r w' ⟨e1, e2, e3⟩ => ⟨e1, h.keepD e3 e2, e3⟩

/-- the program's log is open, the document's not yet -/
structure MidL (w W : World) (K : Nat → Prop) (v : Value) (lb g s g' s' n : Nat) (x : Lg.L) (d e : Dk.D) : Prop where
  held : Held W w.heap.size (fun i => K i ∨ Two g' s' i) lb v g s n x d
  kl : K lb
  k2 : ∀ i, Two g s i → K i
  kv : ∀ i, v.ownBlock = some i → K i
  ap : ∀ i, K i → ¬ Two g' s' i
  pr : Pair w W g s g' s' n d e

theorem pair_open1 {w W : World} {g s g' s' n : Nat} {d e : Dk.D} (h : Pair w W g s g' s' n d e) (hn4 : 4 ≤ n) (hw : d.writes ≤ 800000) (q : Dk.D × Int × Lg.L) (hq : openQ n d = q) :
    Calls Try.prog 10 #[.pointer (some ⟨g, 0, none⟩)] W fun r w' => (q.2.1 = 0 ∧ ∃ (lb : Nat) (K : Nat → Prop) (v : Value), r = .returned (.tuple #[.pointer (some ⟨lb, 0, none⟩), .int .i64 0]) ∧ MidL w w' K v lb g s g' s' n q.2.2 q.1 e) ∨ (q.2.1 ≠ 0 ∧ r = .returned (.tuple #[.pointer none, .int .i64 q.2.1]) ∧ Pair w w' g s g' s' n q.1 e) := by
  subst hq
  have h1 := h.rd.ltg
  have h2 := h.rd.lts
  have h3 := h.hg
  have h4 := h.hs
  refine (open_k W w.heap.size g s n (Two g' s') (fun i hi => by rcases hi with x | x <;> omega) (fun i hi => by rcases hi with x | x <;> omega) d h.run.at_ hn4 hw h.run.hg h.run.hs).mono fun r w' hp => ?_
  rcases hp with ⟨e0, lb, K, v, e1, a1, a2, a3, a4, a5, a6⟩ | ⟨e0, e1, a1, a2⟩
  · refine .inl ⟨e0, lb, K, v, e1, a1, a4, a5, a6, fun i hi x => ?_, h.turn1 a1.disk a2⟩
    rcases a3 i hi with y | y
    · exact h.ap i y x
    · rcases x with x | x <;> omega
  · exact .inr ⟨e0, e1, h.turn1 a1 a2⟩
theorem mid_open2 {w W : World} {K : Nat → Prop} {v : Value} {lb g s g' s' n : Nat} {x : Lg.L} {d e : Dk.D} (h : MidL w W K v lb g s g' s' n x d e) (hn4 : 4 ≤ n) (hw : e.writes ≤ 800000) (q : Dk.D × Int × Lg.L) (hq : openQ n e = q) (hc : q.2.1 = 0) :
    Calls Try.prog 11 #[.pointer (some ⟨g', 0, none⟩)] W fun r w' => ∃ (lr : Nat) (F : Nat → Prop), r = .returned (.tuple #[.pointer (some ⟨lr, 0, none⟩), .int .i64 0]) ∧ Logs w w' F K v lb lr g s g' s' n x d q.2.2 q.1 := by
  refine (ropen_any K g' s' n (n / 2) e W (fun i hi => h.held.flt i (.inl hi)) h.pr.rd rfl hn4 hw q hq).mono fun r w' hp => ?_
  rcases hp with ⟨_, lr, e1, a1, a2, a3⟩ | ⟨e0, _⟩
  · have hlt : lr < w'.heap.size := a1.lbl lr (.inr rfl)
    refine ⟨lr, fun i => (K i ∨ Two g' s' i) ∨ i = lr, e1, ⟨h.held.widen a3 (fun i => .inr) (h.ap lb h.kl) (h.ap g (h.k2 g (.inl rfl))) (h.ap s (h.k2 s (.inr rfl))) (fun i hi => h.ap i (h.kv i hi)) a2 hlt, (h.pr.turn2 a1.disk a3).run.bel, h.kl, h.k2, h.kv, fun i hi => .inl (.inl hi), fun i hi => ?_, fun i hi x => ?_, a1⟩⟩
    · rcases hi with hi | hi
      · exact .inl (.inr hi)
      · exact .inr hi
    · rcases x with x | x
      · exact h.ap i hi x
      · have := h.held.flt i (.inl hi)
        omega
  · exact absurd hc e0
theorem pair_open2 {w W : World} {g s g' s' n : Nat} {d e : Dk.D} (h : Pair w W g s g' s' n d e) (hn4 : 4 ≤ n) (hw : e.writes ≤ 800000) (q : Dk.D × Int × Lg.L) (hq : openQ n e = q) (hc : q.2.1 ≠ 0) :
    Calls Try.prog 11 #[.pointer (some ⟨g', 0, none⟩)] W fun r w' => r = .returned (.tuple #[.pointer none, .int .i64 q.2.1]) ∧ Pair w w' g s g' s' n d q.1 := by
  refine (ropen_any No g' s' n (n / 2) e W (fun i hi => hi.elim) h.rd rfl hn4 hw q hq).mono fun r w' hp => ?_
  rcases hp with ⟨e0, _⟩ | ⟨_, e1, a1, a2⟩
  · exact absurd e0 hc
  · exact ⟨e1, h.turn2 a1 a2⟩

/-- what the two hold at a round's start -/
def St (w W : World) (g s g' s' n : Nat) (d : Dk.D) (u v : Value) : Prop :=
  Pair w W g s g' s' n d d ∧ ((∃ (F K : Nat → Prop) (r : Value) (lb lr : Nat) (x : Lg.L), u = .pointer (some ⟨lb, 0, none⟩) ∧ v = .pointer (some ⟨lr, 0, none⟩) ∧ 4 ≤ n ∧ Logs w W F K r lb lr g s g' s' n x d x d) ∨ (u = .pointer none ∧ v = .pointer none))
theorem St.below {w W W' : World} {g s g' s' n : Nat} {d : Dk.D} {u v : Value} (h : St w W g s g' s' n d u v) (hb : Below W.heap.size W W') : St w W' g s g' s' n d u v := by
  obtain ⟨h1, h2⟩ := h
  refine ⟨h1.below hb, ?_⟩
  rcases h2 with ⟨F, K, r, lb, lr, x, e1, e2, e3, h3⟩ | h2
  · exact .inl ⟨F, K, r, lb, lr, x, e1, e2, e3, h3.below hb⟩
  · exact .inr h2
theorem same_st {w W : World} {g s g' s' n : Nat} {d : Dk.D} {u v : Value} (h : St w W g s g' s' n d u v) :
    Calls Try.prog 23 #[u, v, .pointer (some ⟨g, 0, none⟩), .pointer (some ⟨g', 0, none⟩)] W fun e w' => e = .returned (.bool true) ∧ St w w' g s g' s' n d u v := by
  have h0 := h
  obtain ⟨h1, h2⟩ := h
  rcases h2 with ⟨F, K, r, lb, lr, x, rfl, rfl, e3, h3⟩ | ⟨rfl, rfl⟩
  · exact (same_log w W lb lr g s g' s' n x d h3.ll h3.rl h3.held.disk h3.rl.disk).mono fun _ _ ⟨e1, e2⟩ => ⟨e1, h0.below e2⟩
  · exact (same_nil w W g s g' s' n d h1.run.at_ h1.rd).mono fun _ _ ⟨e1, e2⟩ => ⟨e1, h0.below e2⟩
end Go.Proofs.Ytoocifoglhhnmaa
