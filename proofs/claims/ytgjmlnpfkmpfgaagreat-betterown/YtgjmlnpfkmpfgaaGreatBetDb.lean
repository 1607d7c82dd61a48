/- The document's answer for better: routes of their own. -/
import Derived.Test.YtgjmlnpfkmpfgaaGreatBetDa
namespace Go.Proofs.YtgjmlnpfkmpfgaaGreat
open Go.RowKit
set_option linter.unusedVariables false
set_option maxRecDepth 100000

theorem OwnQ.lower {W : World} {a b : Nat} {v : Value} {l : List Rd} (h : OwnQ W b v l) (hab : a ≤ b) : OwnQ W a v l := by
  obtain ⟨h1, h2⟩ := h
  refine ⟨h1, ?_⟩
  rcases h2 with h2 | ⟨g, cap, cur, hv, hg, r⟩
  · exact .inl h2
  · exact .inr ⟨g, cap, cur, hv, Nat.le_trans hab hg, r⟩
/-- an append to such a row, and where that lies -/
theorem ownq_app_at {W : World} {base : Nat} {v : Value} {l : List Rd} (h : OwnQ W base v l) (hb : base ≤ W.heap.size) (A : Option Addr) (m c : Nat) (b : List Rd) (hm : b.length = m) (hby : RowsR W A b) (hs : l.length + m ≤ 100000) (M : Nat) (hM : (l ++ b).length = M) :
    ∃ v' w', (Builtin.append_ #[29, 29] 29 #[v, .slice A m c]).run Tryz.prog W = .ok v' w' ∧ (∃ A' c', v' = .slice A' M c') ∧ Hid (OwnQ w' base v' (l ++ b) ∧ Below base W w' ∧ (∀ k, k < W.heap.size → v.ownBlock ≠ some k → w'.heap[k]? = W.heap[k]?) ∧ W.heap.size ≤ w'.heap.size ∧ (v'.ownBlock = v.ownBlock ∨ v'.ownBlock = some W.heap.size)) := by
  obtain ⟨i0, hi0, hz0, hz1, hz2⟩ := info_parts4 route_info
  have hM' : l.length + m = M := by rw [← hM, List.length_append, hm]
  cases A with
  | none =>
    have hl0 : b = [] := by
      cases b with
      | nil => rfl
      | cons z b =>
        obtain ⟨ad, h1, _⟩ := hby 0 z rfl
        cases h1
    subst hl0
    obtain rfl : m = 0 := by simpa using hm.symm
    obtain rfl : l.length = M := by simpa using hM
    rw [List.append_nil]
    obtain ⟨A', c', e, _⟩ := h.row
    refine ⟨v, W, ?_, ⟨A', c', e⟩, h, Below.refl _ _, fun _ _ _ => rfl, Nat.le_refl _, .inl rfl⟩
    rcases h.2 with ⟨rfl, h0⟩ | ⟨g, cap, cur, rfl, _, _, hnc, _⟩
    · simp [Builtin.append_, run_underlying Tryz.underlying29, sizeOf, typeInfo, hi0, Builtin.lenOf, Builtin.firstCells]
    · simp [Builtin.append_, run_underlying Tryz.underlying29, sizeOf, typeInfo, hi0, Builtin.lenOf, Builtin.firstCells, hnc, storeCells]
  | some ad =>
    obtain ⟨v', w', h1, h2, h3, _, h5⟩ := run_append_own_at (P := Tryz.prog) W base 29 29 49 i0 _ 2 32 Tryz.underlying29 hi0 hz0 hz1 hz2 rfl (by omega) v l.length (rCells l) h ad m c (rCells b) (by rw [rc_len, hm])
      (fun j u hu => hby.cells hu) rc_one (by unfold maxLen; omega) (by omega) hb
    have ho : OwnQ w' base v' (l ++ b) := by unfold OwnQ; rw [List.length_append, hm, rc_app]; exact h2
    obtain ⟨A', c', e, _⟩ := ho.row
    rw [hM] at e
    refine ⟨v', w', h1, ⟨A', c', e⟩, ho, ?_, fun k hk hv => h3.block k hk (fun e => hv e.symm), h3.size, h5⟩
    exact ⟨h3.os, h3.tape, h3.output, h3.size, fun k hk => h3.block k (Nat.lt_of_lt_of_le hk hb) (fun e => by have := (h.lt k e.symm).1; omega)⟩

/-- routes of one's own, each wherever the row lies -/
structure QLs (W : World) (base : Nat) (v : Value) (l : List Rd) : Prop where
  own : OwnQ W base v l
  st : ∀ p ∈ l, St W base v.ownBlock fun W' => RAt W' p
  cp : ∀ p ∈ l, p.sm ≤ p.sc
theorem QLs.below {W W' : World} {base : Nat} {v : Value} {l : List Rd} (h : QLs W base v l) (hb : Below W.heap.size W W') : QLs W' base v l := ⟨h.own.below hb, fun p hp => (h.st p hp).below hb, h.cp⟩
theorem QLs.new0 (W : World) : QLs (W.alloc (.cells #[] 49)) W.heap.size (.slice (some ⟨W.heap.size, 0, none⟩) 0 0) [] := ⟨ownQ_none W _ (Nat.le_refl _), fun p hp => (by cases hp), fun p hp => (by cases hp)⟩
theorem QLs.lower {W : World} {a b : Nat} {v : Value} {l : List Rd} (h : QLs W b v l) (hab : a ≤ b) : QLs W a v l := ⟨h.own.lower hab, fun p hp => (h.st p hp).mono hab, h.cp⟩
/-- routes are appended -/
theorem QLs.app {W : World} {base : Nat} {v : Value} {l : List Rd} (h : QLs W base v l) (hb : base ≤ W.heap.size) (A : Option Addr) (m c : Nat) (b : List Rd) (hm : b.length = m) (hby : RowsR W A b) (hst : ∀ p ∈ b, St W base v.ownBlock fun W' => RAt W' p) (hcp : ∀ p ∈ b, p.sm ≤ p.sc) (hs : l.length + m ≤ 100000) (M : Nat) (hM : (l ++ b).length = M) :
    ∃ v' w', (Builtin.append_ #[29, 29] 29 #[v, .slice A m c]).run Tryz.prog W = .ok v' w' ∧ ∃ A' c', v' = .slice A' M c' ∧ Hid (QLs w' base (.slice A' M c') (l ++ b) ∧ Below base W w' ∧ Nw W w' v (.slice A' M c')) := by
  obtain ⟨v', w', h1, ⟨A', c', e⟩, h2⟩ := ownq_app_at h.own hb A m c b hm hby hs M hM
  subst e
  obtain ⟨o1, o2, o3, o4, o5⟩ := h2.out
  refine ⟨_, w', h1, A', c', rfl, ⟨o1, fun p hp => ?_, fun p hp => (List.mem_append.1 hp).elim (h.cp p) (hcp p)⟩, o2, o3, o5.imp id fun e => ⟨_, e, Nat.le_refl _⟩⟩
  have hp' : St W base v.ownBlock fun W' => RAt W' p := by
    rcases List.mem_append.1 hp with hp | hp
    · exact h.st p hp
    · exact hst p hp
  refine hp'.step (fun k _ hk hg => o3 k hk (fun e => hg e.symm)) (fun k h3 h4 h5 => ⟨h3, fun e => ?_⟩) o4
  rcases o5 with o5 | o5
  · exact h5 (e.trans o5)
  · rw [o5] at e
    injection e with e
    omega
/-- one route more, of what lies from a later block on -/
theorem QLs.one {W : World} {base lo n c : Nat} {A : Option Addr} {l : List Rd} (h : QLs W base (.slice A n c) l) (hn : l.length = n) (hb : base ≤ W.heap.size) (p : Rd) (hp : St W lo none fun W' => RAt W' p) (hcp : p.sm ≤ p.sc) (hlo : ∀ k, (Value.slice A n c).ownBlock = some k → k < lo) (hbl : base ≤ lo) (hs : n ≤ 50000) :
    ∃ v' w', (Builtin.append_ #[29, 29] 29 #[.slice A n c, .slice (some ⟨W.heap.size, 0, none⟩) 1 1]).run Tryz.prog (W.alloc (.cells #[.int .i64 p.tr, .slice p.sA p.sm p.sc] 49)) = .ok v' w' ∧ ∃ A' c', v' = .slice A' (n + 1) c' ∧ Hid (QLs w' base (.slice A' (n + 1) c') (l ++ [p]) ∧ Below base W w' ∧ Nw W w' (.slice A n c) (.slice A' (n + 1) c')) := by
  have hbel : Below W.heap.size W (W.alloc (.cells #[.int .i64 p.tr, .slice p.sA p.sm p.sc] 49)) := below_alloc _ _
  have hbx : Box (W.alloc (.cells #[.int .i64 p.tr, .slice p.sA p.sm p.sc] 49)) W.heap.size #[.int .i64 p.tr, .slice p.sA p.sm p.sc] 49 := Box.new W _ _
  have hrow : RowsR (W.alloc (.cells #[.int .i64 p.tr, .slice p.sA p.sm p.sc] 49)) (some ⟨W.heap.size, 0, none⟩) [p] := fun k s hk => by
    have hk0 : k = 0 := by have := (List.getElem?_eq_some_iff.1 hk).1; simp at this; exact this
    subst hk0
    obtain rfl : p = s := by simpa using hk
    refine ⟨_, rfl, ?_, ?_⟩
    · rw [add_flat]; exact hbx.cell 0 _ rfl
    · rw [add_flat]; exact hbx.cell 1 _ rfl
  obtain ⟨v', w', h1, A', c', e, h2⟩ := (h.below hbel).app (Nat.le_trans hb hbel.size) (some ⟨W.heap.size, 0, none⟩) 1 1 [p] rfl hrow (fun q hq => by
    obtain rfl := List.mem_singleton.1 hq
    exact ((hp.below hbel).out fun k e => .inl (hlo k e)).mono hbl) (fun q hq => by obtain rfl := List.mem_singleton.1 hq; exact hcp) (by omega) (n + 1) (by rw [List.length_append, hn]; rfl)
  exact ⟨v', w', h1, A', c', e, h2.out.1, (hbel.mono hb).trans h2.out.2.1, h2.out.2.2.pre hbel⟩

theorem J1.stay {V w : World} {xb : Option Nat} {x : Int} {n c : Nat} {A : Option Addr} {l : List Int} (h : J1 V xb x l (.slice A n c) w) : St w V.heap.size none fun W' => IntsAt W' A l := by
  obtain ⟨A', c', e, _, _, h1⟩ := h.own.ints
  injection e with e1 e2 e3
  subst e1
  refine St.ints h1 fun ad e => ⟨?_, by simp⟩
  rcases h.own.2 with ⟨e1, _⟩ | ⟨g, cap, cur, e1, hg, _⟩
  · injection e1 with e1; rw [e1] at e; cases e
  · injection e1 with e1
    rw [e1] at e
    obtain rfl := Option.some.inj e
    exact hg
theorem J1.cap {V w : World} {xb : Option Nat} {x : Int} {n c : Nat} {A : Option Addr} {l : List Int} (h : J1 V xb x l (.slice A n c) w) : n ≤ c := by
  obtain ⟨A', c', e, h1, _⟩ := h.own.ints
  injection e with e1 e2 e3
  omega
/-- routes while they are copied -/
structure CI (w : World) (rs : List Rd) (i : Nat) (v : Value) (l : List Rd) (W : World) : Prop where
  bel : Below w.heap.size w W
  q : QLs W w.heap.size v l
  eq : ros l = (ros rs).take i
  len : l.length = i
/-- what a call that copies routes leaves -/
def CopPost (w : World) (rs : List Rd) (n : Nat) (e : Ending) (w' : World) : Prop := ∃ (A : Option Addr) (c : Nat) (l : List Rd), e = .returned (.slice A n c) ∧ Hid (CI w rs n (.slice A n c) l w')
theorem ros_snoc (l : List Rd) (r : Rd) : ros (l ++ [r]) = ros l ++ [r.ro] := by unfold ros; simp
set_option maxHeartbeats 8000000 in
theorem dcopied_b (A : Option Addr) (n c : Nat) (rs : List Rd) (w : World) (hn : rs.length = n) (hn2 : n ≤ 1000) (hr : RowsR w A rs) (ha : ∀ r ∈ rs, RAt w r) :
    Calls Tryz.prog 55 #[.slice A n c] w (CopPost w rs n) := by
  have HN := Lib.hid hn
  have HR := Lib.hid hr
  have HA := Lib.hid ha
  have HC0 : Hid (CI w rs 0 (.slice (some ⟨w.heap.size, 0, none⟩) 0 0) [] (w.alloc (.cells #[] 49))) := ⟨below_alloc _ _, QLs.new0 w, rfl, rfl⟩
  clear hn hr ha
  go_enter Tryz.func55, Tryz.ntmps55
  go_wp2_with fail
  go_loopg [3, 4] n (fun gk s3 s4 Wx => ∃ (i cc : Nat) (B : Option Addr) (l : List Rd) (W : World), W = Wx ∧ i + gk = n ∧ s3 = .slice B i cc ∧ s4 = .int .i64 i ∧ Hid (CI w rs i (.slice B i cc) l W))
  case atStart => exact ⟨0, 0, _, [], _, rfl, by omega, rfl, rfl, HC0.out⟩
  case round =>
    clear HC0
    obtain ⟨i, cc, B, l, W, rfl, hig, rfl, rfl, HCI⟩ := hrel
    by_cases hlt : i < n
    · obtain ⟨gk, rfl⟩ : ∃ j, gk = j + 1 := ⟨gk - 1, by omega⟩
      obtain ⟨r, hrr⟩ := mlist_at rs i (by rw [HN.out]; exact hlt)
      obtain ⟨ad, hA, hz0, hz1⟩ := HR.out i r hrr
      have HRR := Lib.hid hrr
      have HRA := Lib.hid ((HA.out r (List.mem_of_getElem? hrr)).below HCI.out.bel)
      have HZ : Hid (∀ U, Below w.heap.size w U → U.cell? (ad.add (i * 2)) = some (.int .i64 r.tr) ∧ U.cell? ⟨(ad.add (i * 2)).block, (ad.add (i * 2)).off + 1, none⟩ = some (.slice r.sA r.sm r.sc)) := fun U hU => ⟨by rw [hU.cell (p := ad.add (i * 2)) (lt_of_cell hz0)]; exact hz0, by rw [hU.cell (p := ⟨(ad.add (i * 2)).block, (ad.add (i * 2)).off + 1, none⟩) (lt_of_cell hz1)]; exact hz1⟩
      have i2 : (i : Int) < (n : Int) := by omega
      have hs2 := HRA.out.s2
      have HA1 : Hid (∃ v' w', (Builtin.append_ #[30, 30] 30 #[.slice (some ⟨W.heap.size, 0, none⟩) 0 0, .slice r.sA r.sm r.sc]).run Tryz.prog ((W.alloc (.cells #[] 3)).drew) = .ok v' w' ∧ ∃ A5 c5, v' = .slice A5 r.sm c5 ∧ Hid (J1 W none 0 r.st (.slice A5 r.sm c5) w')) := by
        obtain ⟨v', w', h1, A', c', e, h2⟩ := (J1.a W 0).app r.sA r.sm r.sc r.st HRA.out.sl HRA.out.st (by simp; omega) r.sm (by simpa using HRA.out.sl)
        subst e
        exact ⟨_, w', h1, A', c', rfl, h2⟩
      have HA2 : Hid (∀ (w5 : World) (A5 : Option Addr) (c5 : Nat), J1 W none 0 r.st (.slice A5 r.sm c5) w5 → ∃ v' w', (Builtin.append_ #[29, 29] 29 #[.slice B i cc, .slice (some ⟨w5.heap.size, 0, none⟩) 1 1]).run Tryz.prog (w5.alloc (.cells #[.int .i64 r.tr, .slice A5 r.sm c5] 49)) = .ok v' w' ∧ ∃ B1 c1 l1, v' = .slice B1 (i + 1) c1 ∧ Hid (CI w rs (i + 1) (.slice B1 (i + 1) c1) l1 w')) := fun w5 A5 c5 hj => by
        have hb5 := hj.bel
        have hbw : Below w.heap.size w w5 := below_next HCI.out.bel hb5
        obtain ⟨v', w', h1, B1, c1, rfl, h2⟩ := (HCI.out.q.below hb5).one HCI.out.len hbw.size ⟨r.tr, A5, r.sm, c5, r.st⟩ (hj.stay.imp fun W' h => ⟨HRA.out.sl, hs2, h⟩) hj.cap (fun k e => (HCI.out.q.own.lt k e).2) HCI.out.bel.size (by omega)
        refine ⟨_, w', h1, B1, c1, _, rfl, hbw.trans h2.out.2.1, h2.out.1, ?_, by rw [List.length_append, HCI.out.len]; rfl⟩
        rw [ros_snoc, HCI.out.eq, Ar.take_snoc _ _ _ (ros_at HRR.out)]
        rfl
      have HY5 : Hid (∀ (w5 : World) (A5 : Option Addr) (c5 : Nat), J1 W none 0 r.st (.slice A5 r.sm c5) w5 → w5.cell? (ad.add (i * 2)) = some (.int .i64 r.tr)) := fun w5 A5 c5 hj => (HZ.out w5 (below_next HCI.out.bel hj.bel)).1
      obtain rfl := hA
      clear hrr hz0 hz1
      go_upto_region 5 with fail
      obtain ⟨z0, z1⟩ := HZ.out W HCI.out.bel
      obtain ⟨y0, y1⟩ := HZ.out (W.alloc (.cells #[] 3)) (below_next HCI.out.bel (below_alloc W (.cells #[] 3)))
      go_region_law (first
        | (refine step_append_w (w5.alloc (.cells #[.int .i64 r.tr, .slice A5 r.sm c5] 49)) (by with_reducible rfl) (by rfl) (.tmp 12) (.tmp 26) 29 29 29 (by rfl) (by rfl) (.slice B i cc) (.slice (some ⟨w5.heap.size, 0, none⟩) 1 1) (by rfl) (by rfl) _ HAP.out ?_
           rintro v2 w6 ⟨B1, c1, l1, rfl, HF⟩)
        | (refine step_append_w ((W.alloc (.cells #[] 3)).drew) (by with_reducible rfl) (by rfl) (.tmp 18) (.tmp 23) 30 30 30 (by rfl) (by rfl) (.slice (some ⟨W.heap.size, 0, none⟩) 0 0) (.slice r.sA r.sm r.sc) (by rfl) (by rfl) _ HA1.out ?_
           rintro v1 w5 ⟨A5, c5, rfl, HJ⟩
           have HAP := Lib.hid (HA2.out _ _ _ HJ.out)
           have t5 := HY5.out _ _ _ HJ.out))
      all_goals
        clear z0 z1 y0 y1
        go_wp2
        go_roundg gk
        case measure => omega
        case rel => exact ⟨i + 1, c1, B1, l1, _, rfl, by omega, by first | rfl | go_num, by first | rfl | go_num, HF.out⟩
    · obtain rfl : i = n := by omega
      go_wp2
      go_ret
      exact ⟨B, cc, l, rfl, HCI.out⟩
end Go.Proofs.YtgjmlnpfkmpfgaaGreat
