/- Texts joined: The document's answer for better: what is known while moves are listed. The document's answer for better: routes of their own, each with stops of its own. -/
import Derived.Test.YtgjmlnpfkmpfgaaGreatBetDabc
import Derived.Test.YtgjmlnpfkmpfgaaGreatMaths
section
/-! The document's answer for better: what is known while moves are listed. -/
namespace Bt
open Pl
/-- few routes of few stops -/
def Few (rs : List Ro) : Prop := rs.length ≤ 7 ∧ ∀ r ∈ rs, r.st.length ≤ 24
theorem Few.tot {rs : List Ro} (h : Few rs) : (stops rs).length ≤ 10000 := by
  have h1 := flat_le (l := rs) (f := Ro.st) (b := 24) h.2
  have h2 := h.1
  unfold stops
  omega
theorem Sm.at_ {p : List Ro} (h : Sm p) : ∀ r ∈ p, r.st.length ≤ 12 := fun r hr => by
  obtain ⟨k, hk⟩ := List.getElem?_of_mem hr
  rw [← stAt_at hk]
  exact h.s12 k
theorem few_set {p : List Ro} (h1 : p.length ≤ 7) (h2 : ∀ r ∈ p, r.st.length ≤ 24) (i : Nat) {st : List Int} (hs : st.length ≤ 24) : Few (setSt p i st) := by
  refine ⟨by rw [setSt_len]; exact h1, fun r hr => ?_⟩
  unfold setSt at hr
  rcases List.mem_or_eq_of_mem_set hr with h | h
  · exact h2 r h
  · rw [h]; exact hs
theorem few_snoc {p : List Ro} (h1 : p.length ≤ 6) (h2 : ∀ r ∈ p, r.st.length ≤ 24) {r : Ro} (hs : r.st.length ≤ 24) : Few (p ++ [r]) := by
  refine ⟨by rw [List.length_append]; simp; omega, fun s hr => ?_⟩
  rcases List.mem_append.1 hr with h | h
  · exact h2 s h
  · rw [List.mem_singleton.1 h]; exact hs
end Bt
namespace Go.Proofs.YtgjmlnpfkmpfgaaGreat
open Go.RowKit
set_option linter.unusedVariables false
set_option maxRecDepth 100000

theorem ros_set {l : List Rd} {k : Nat} {r : Rd} (h : l[k]? = some r) (A : Option Addr) (m c : Nat) (st : List Int) : ros (l.set k ⟨r.tr, A, m, c, st⟩) = Bt.setSt (ros l) k st := by
  rw [Bt.setSt_at (ros_at h)]
  unfold ros
  rw [List.map_set]
  rfl
theorem QLs.at_ {W : World} {base n c : Nat} {A : Option Addr} {l : List Rd} (h : QLs W base (.slice A n c) l) {k : Nat} {r : Rd} (hr : l[k]? = some r) :
    ∃ g, A = some ⟨g, 0, none⟩ ∧ base ≤ g ∧ g < W.heap.size ∧ W.cell? ⟨g, k * 2, none⟩ = some (.int .i64 r.tr) ∧ W.cell? ⟨g, k * 2 + 1, none⟩ = some (.slice r.sA r.sm r.sc) ∧ W.frozen? ⟨g, k * 2 + 1, none⟩ = false := by
  obtain ⟨A', c', e, _, _, h2, h3⟩ := h.own.row
  injection e with e1 e2 e3
  subst e1
  obtain ⟨ad, e, c0, c1⟩ := h2 k r hr
  obtain ⟨g1, g2, g3, g4⟩ := h3 ad e
  obtain ⟨g, o, s⟩ := ad
  simp only at g1 g2 g3 g4
  subst g3 g4 e
  rw [add_flat, Nat.zero_add] at c0
  rw [add_flat, Nat.zero_add] at c1
  exact ⟨g, rfl, g1, g2, c0, c1, h.own.fz _⟩
/-- a copied row's stops are turned into others -/
theorem QLs.set {W w5 : World} {base g n c m' c' k : Nat} {A' : Option Addr} {l : List Rd} {r : Rd} {st : List Int} (h : QLs W base (.slice (some ⟨g, 0, none⟩) n c) l) (hr : l[k]? = some r) (hbase : base ≤ W.heap.size) (hg : g < W.heap.size) (h5 : Below W.heap.size W w5) (hl : st.length = m') (hm : m' ≤ 1000) (hmc : m' ≤ c') (hi : IntsAt w5 A' st) (hlo : ∀ ad, A' = some ad → W.heap.size ≤ ad.block) :
    QLs (w5.setCell ⟨g, k * 2 + 1, none⟩ (.slice A' m' c')) base (.slice (some ⟨g, 0, none⟩) n c) (l.set k ⟨r.tr, A', m', c', st⟩) := by
  have hagr : ∀ lo, Agr lo (some g) w5 (w5.setCell ⟨g, k * 2 + 1, none⟩ (.slice A' m' c')) := fun lo j _ _ h3 => Go.Deep.blk_setCell_other _ _ _ _ (by intro e; exact h3 (by rw [show j = g from e]))
  have hsz : w5.heap.size ≤ (w5.setCell ⟨g, k * 2 + 1, none⟩ (.slice A' m' c')).heap.size := by rw [Go.Deep.nblk_setCell]; exact Nat.le_refl _
  refine ⟨(h.own.below h5).set hr A' m' c' st, fun s hs => ?_, fun s hs => ?_⟩
  · rcases List.mem_or_eq_of_mem_set hs with h1 | h1
    · exact ((h.st s h1).below h5).step (hagr _) (fun j h2 _ h3 => ⟨h2, h3⟩) hsz
    · subst h1
      have s0 : St w5 W.heap.size none fun W' => RAt W' ⟨r.tr, A', m', c', st⟩ := (St.ints hi fun ad e => ⟨hlo ad e, by simp⟩).imp fun W' h => ⟨hl, hm, h⟩
      have s1 : St w5 base (some g) fun W' => RAt W' ⟨r.tr, A', m', c', st⟩ := (s0.out fun j e => by
        obtain rfl := Option.some.inj e
        exact .inl hg).mono hbase
      exact s1.step (hagr _) (fun j h2 _ h3 => ⟨h2, h3⟩) hsz
  · rcases List.mem_or_eq_of_mem_set hs with h1 | h1
    · exact h.cp s h1
    · subst h1; exact hmc
/-- what such a row tells of each route, wherever the row lies -/
theorem QLs.free {W : World} {base : Nat} {v : Value} {l : List Rd} (h : QLs W base v l) : ∀ r ∈ l, St W base none fun W' => RAt W' r := fun r hr W' ha => h.st r hr W' fun k h1 h2 _ => ha k h1 h2 (by simp)
theorem QLs.rows {W : World} {base n c : Nat} {A : Option Addr} {l : List Rd} (h : QLs W base (.slice A n c) l) : RowsR W A l := by
  obtain ⟨A', c', e, _, _, h2, _⟩ := h.own.row
  injection e with e1 e2 e3
  rw [e1]; exact h2

/-- what is known while moves are listed -/
structure MV (w : World) (b1 : Nat) (x : Wd) (p : Pd) (t : List (List Pl.Ro)) (A : Option Addr) (m c : Nat) (l : List Pd) (W : World) : Prop where
  x0 : WAt w x
  p0 : PAt w p
  wb : w.heap.size = b1
  bel : Below w.heap.size w W
  bx : Box W b1 x.cells 28
  bp : Box W (b1 + 1) p.cells 32
  hi : b1 + 2 ≤ W.heap.size
  ls : PLs W (b1 + 2) (.slice A m c) l
  len : l.length = m
  eq : (l.map fun q => ros q.rs) = t.map Bt.made
  us : ∀ q ∈ l, q.us = Pl.restS x.os (ros q.rs)
  cp : ∀ q ∈ l, ∀ r ∈ q.rs, r.sm ≤ r.sc
section
variable {w W : World} {b1 m c : Nat} {x : Wd} {p : Pd} {t : List (List Pl.Ro)} {A : Option Addr} {l : List Pd}
theorem MV.below (h : MV w b1 x p t A m c l W) {W' : World} (hb : Below W.heap.size W W') : MV w b1 x p t A m c l W' :=
  ⟨h.x0, h.p0, h.wb, below_next h.bel hb, h.bx.below hb, h.bp.below hb, Nat.le_trans h.hi hb.size, h.ls.below hb, h.len, h.eq, h.us, h.cp⟩
theorem MV.wx (h : MV w b1 x p t A m c l W) : WX W b1 x := ⟨h.bx, h.x0.below h.bel⟩
theorem MV.pat (h : MV w b1 x p t A m c l W) : PAt W p := h.p0.below h.bel
theorem MV.d0 (h : MV w b1 x p t A m c l W) : W.cell? ⟨b1 + 1, 0, none⟩ = some (.slice p.rA p.rm p.rc) := h.bp.cell 0 _ rfl
theorem MV.d1 (h : MV w b1 x p t A m c l W) : W.cell? ⟨b1 + 1, 1, none⟩ = some (.slice p.uA p.um p.uc) := h.bp.cell 1 _ rfl
theorem MV.tl (h : MV w b1 x p t A m c l W) : t.length = m := by
  have h1 := congrArg List.length h.eq
  rw [List.length_map, List.length_map, h.len] at h1
  exact h1.symm
/-- one move more -/
theorem MV.add2 (h : MV w b1 x p t A m c l W) {W' : World} (hb : Below W.heap.size W W') (q : Pd) {r : List Pl.Ro} (hq : St W' W.heap.size none fun W2 => PAt W2 q) (hro : ros q.rs = Bt.made r) (hus : q.us = Pl.restS x.os (ros q.rs)) (hcp : ∀ s ∈ q.rs, s.sm ≤ s.sc) (hm : t.length ≤ 50000) :
    ∃ v' w2, (Builtin.append_ #[36, 36] 36 #[.slice A m c, .slice (some ⟨W'.heap.size, 0, none⟩) 1 1]).run Tryz.prog (W'.alloc (.cells #[.slice q.rA q.rm q.rc, .slice q.uA q.um q.uc] 32)) = .ok v' w2 ∧ ∃ A' c' l', v' = .slice A' (m + 1) c' ∧ Hid (MV w b1 x p (t ++ [r]) A' (m + 1) c' l' w2 ∧ Nw W' w2 (.slice A m c) (.slice A' (m + 1) c')) := by
  have hwb := h.wb
  have h' := h.below hb
  have htl := h.tl
  obtain ⟨v', w2, h1, A', c', e, h2⟩ := h'.ls.one h.len h'.hi q hq (fun k e => (h.ls.own.lt k e).2) h.hi (by omega)
  have hb2 := h2.out.2.1
  refine ⟨v', w2, h1, A', c', l ++ [q], e, ⟨h.x0, h.p0, hwb, h'.bel.trans (hb2.mono (by omega)), h'.bx.old hb2 (by omega), h'.bp.old hb2 (by omega), Nat.le_trans h'.hi hb2.size, h2.out.1, by rw [List.length_append, h.len]; rfl, ?_, fun s hs => ?_, fun s hs => ?_⟩, h2.out.2.2⟩
  · rw [List.map_append, h.eq, List.map_append]; simp [hro]
  · rcases List.mem_append.1 hs with h3 | h3
    · exact h.us s h3
    · rw [List.mem_singleton.1 h3]; exact hus
  · rcases List.mem_append.1 hs with h3 | h3
    · exact h.cp s h3
    · rw [List.mem_singleton.1 h3]; exact hcp
theorem MV.add (h : MV w b1 x p t A m c l W) {W' : World} (hb : Below W.heap.size W W') (q : Pd) {r : List Pl.Ro} (hq : St W' W.heap.size none fun W2 => PAt W2 q) (hro : ros q.rs = Bt.made r) (hus : q.us = Pl.restS x.os (ros q.rs)) (hcp : ∀ s ∈ q.rs, s.sm ≤ s.sc) (hm : t.length ≤ 50000) :
    ∃ v' w2, (Builtin.append_ #[36, 36] 36 #[.slice A m c, .slice (some ⟨W'.heap.size, 0, none⟩) 1 1]).run Tryz.prog (W'.alloc (.cells #[.slice q.rA q.rm q.rc, .slice q.uA q.um q.uc] 32)) = .ok v' w2 ∧ ∃ A' c' l', v' = .slice A' (m + 1) c' ∧ Hid (MV w b1 x p (t ++ [r]) A' (m + 1) c' l' w2) := by
  obtain ⟨v', w2, h1, A', c', l', e, h2⟩ := h.add2 hb q hq hro hus hcp hm
  exact ⟨v', w2, h1, A', c', l', e, h2.out.1⟩
end
/-- what a call that lists moves leaves -/
def MovPost (w : World) (x : Wd) (t : List (List Pl.Ro)) (e : Ending) (w' : World) : Prop := ∃ (A : Option Addr) (m c : Nat) (l : List Pd), e = .returned (.slice A m c) ∧ Hid (Below w.heap.size w w' ∧ PLs w' w.heap.size (.slice A m c) l ∧ l.length = m ∧ (l.map fun q => ros q.rs) = t.map Bt.made ∧ (∀ q ∈ l, q.us = Pl.restS x.os (ros q.rs)) ∧ ∀ q ∈ l, ∀ r ∈ q.rs, r.sm ≤ r.sc)
theorem MV.post {w W : World} {b1 m c : Nat} {x : Wd} {p : Pd} {t : List (List Pl.Ro)} {A : Option Addr} {l : List Pd} (h : MV w b1 x p t A m c l W) : MovPost w x t (.returned (.slice A m c)) W :=
  ⟨A, m, c, l, rfl, h.bel, h.ls.lower (by have := h.wb; omega), h.len, h.eq, h.us, h.cp⟩
end Go.Proofs.YtgjmlnpfkmpfgaaGreat
end

section
/-! The document's answer for better: routes of their own, each with stops of its own. -/
namespace Go.Proofs.YtgjmlnpfkmpfgaaGreat
open Go.RowKit
set_option linter.unusedVariables false
set_option maxRecDepth 100000

theorem OwnI.keepB {W W' : World} {base : Nat} {v : Value} {l : List Int} (h : OwnI W base v l) (hb : ∀ k, v.ownBlock = some k → W'.heap[k]? = W.heap[k]?) : OwnI W' base v l := by
  obtain ⟨h1, h2⟩ := h
  refine ⟨h1, ?_⟩
  rcases h2 with h2 | ⟨g, cap, cur, hv, hg, hh, r⟩
  · exact .inl h2
  · exact .inr ⟨g, cap, cur, hv, hg, (hb g (by rw [hv]; rfl)).trans hh, r⟩
/-- a row of routes and a row of numbers lie apart -/
theorem own_ne {W : World} {b : Nat} {v : Value} {l : List Rd} (h : OwnQ W b v l) {b' : Nat} {v2 : Value} {l2 : List Int} (h2 : OwnI W b' v2 l2) (k : Nat) (e : v.ownBlock = some k) (e2 : v2.ownBlock = some k) : False := by
  rcases h.2 with ⟨e3, _⟩ | ⟨g, cap, cur, e3, _, hg, _⟩
  · rw [e3] at e; cases e
  · rcases h2.2 with ⟨e4, _⟩ | ⟨g2, cap2, cur2, e4, _, hg2, _⟩
    · rw [e4] at e2; cases e2
    · rw [e3] at e
      rw [e4] at e2
      obtain rfl := Option.some.inj e
      obtain rfl := Option.some.inj e2
      rw [hg] at hg2
      injection hg2 with hg2
      injection hg2 with _ hg2 _
      cases hg2
/-- routes while they are copied: each has stops of its own -/
structure CJ (w : World) (rs : List Rd) (i : Nat) (v : Value) (l : List Rd) (W : World) : Prop where
  ci : CI w rs i v l W
  ow : ∀ r ∈ l, OwnI W w.heap.size (.slice r.sA r.sm r.sc) r.st
  ds : ∀ (a b : Nat) (ra rb : Rd), l[a]? = some ra → l[b]? = some rb → a ≠ b → ∀ k, (Value.slice ra.sA ra.sm ra.sc).ownBlock = some k → (Value.slice rb.sA rb.sm rb.sc).ownBlock ≠ some k
def CopPost2 (w : World) (rs : List Rd) (n : Nat) (e : Ending) (w' : World) : Prop := ∃ (A : Option Addr) (c : Nat) (l : List Rd), e = .returned (.slice A n c) ∧ Hid (CJ w rs n (.slice A n c) l w')
set_option maxHeartbeats 8000000 in
theorem dcopied2_b (A : Option Addr) (n c : Nat) (rs : List Rd) (w : World) (hn : rs.length = n) (hn2 : n ≤ 1000) (hr : RowsR w A rs) (ha : ∀ r ∈ rs, RAt w r) :
    Calls Tryz.prog 55 #[.slice A n c] w (CopPost2 w rs n) := by
  have HN := Lib.hid hn
  have HR := Lib.hid hr
  have HA := Lib.hid ha
  have HC0 : Hid (CJ w rs 0 (.slice (some ⟨w.heap.size, 0, none⟩) 0 0) [] (w.alloc (.cells #[] 49))) := ⟨⟨below_alloc _ _, QLs.new0 w, rfl, rfl⟩, (fun r h => by cases h), fun a b ra rb h => by simp at h⟩
  clear hn hr ha
  go_enter Tryz.func55, Tryz.ntmps55
  go_wp2_with fail
  go_loopg [3, 4] n (fun gk s3 s4 Wx => ∃ (i cc : Nat) (B : Option Addr) (l : List Rd) (W : World), W = Wx ∧ i + gk = n ∧ s3 = .slice B i cc ∧ s4 = .int .i64 i ∧ Hid (CJ w rs i (.slice B i cc) l W))
  case atStart => exact ⟨0, 0, _, [], _, rfl, by omega, rfl, rfl, HC0.out⟩
  case round =>
    clear HC0
    obtain ⟨i, cc, B, l, W, rfl, hig, rfl, rfl, HCI⟩ := hrel
    by_cases hlt : i < n
    · obtain ⟨gk, rfl⟩ : ∃ j, gk = j + 1 := ⟨gk - 1, by omega⟩
      obtain ⟨r, hrr⟩ := mlist_at rs i (by rw [HN.out]; exact hlt)
      obtain ⟨ad, hA, hz0, hz1⟩ := HR.out i r hrr
      have HRR := Lib.hid hrr
      have HRA := Lib.hid ((HA.out r (List.mem_of_getElem? hrr)).below HCI.out.ci.bel)
      have HZ : Hid (∀ U, Below w.heap.size w U → U.cell? (ad.add (i * 2)) = some (.int .i64 r.tr) ∧ U.cell? ⟨(ad.add (i * 2)).block, (ad.add (i * 2)).off + 1, none⟩ = some (.slice r.sA r.sm r.sc)) := fun U hU => ⟨by rw [hU.cell (p := ad.add (i * 2)) (lt_of_cell hz0)]; exact hz0, by rw [hU.cell (p := ⟨(ad.add (i * 2)).block, (ad.add (i * 2)).off + 1, none⟩) (lt_of_cell hz1)]; exact hz1⟩
      have i2 : (i : Int) < (n : Int) := by omega
      have hs2 := HRA.out.s2
      have HA1 : Hid (∃ v' w', (Builtin.append_ #[30, 30] 30 #[.slice (some ⟨W.heap.size, 0, none⟩) 0 0, .slice r.sA r.sm r.sc]).run Tryz.prog ((W.alloc (.cells #[] 3)).drew) = .ok v' w' ∧ ∃ A5 c5, v' = .slice A5 r.sm c5 ∧ Hid (J1 W none 0 r.st (.slice A5 r.sm c5) w')) := by
        obtain ⟨v', w', h1, A', c', e, h2⟩ := (J1.a W 0).app r.sA r.sm r.sc r.st HRA.out.sl HRA.out.st (by simp; omega) r.sm (by simpa using HRA.out.sl)
        subst e
        exact ⟨_, w', h1, A', c', rfl, h2⟩
      have HA2 : Hid (∀ (w5 : World) (A5 : Option Addr) (c5 : Nat), J1 W none 0 r.st (.slice A5 r.sm c5) w5 → ∃ v' w', (Builtin.append_ #[29, 29] 29 #[.slice B i cc, .slice (some ⟨w5.heap.size, 0, none⟩) 1 1]).run Tryz.prog (w5.alloc (.cells #[.int .i64 r.tr, .slice A5 r.sm c5] 49)) = .ok v' w' ∧ ∃ B1 c1 l1, v' = .slice B1 (i + 1) c1 ∧ Hid (CJ w rs (i + 1) (.slice B1 (i + 1) c1) l1 w')) := fun w5 A5 c5 hj => by
        have hb5 := hj.bel
        have hbw : Below w.heap.size w w5 := below_next HCI.out.ci.bel hb5
        obtain ⟨v', w', h1, B1, c1, rfl, h2⟩ := (HCI.out.ci.q.below hb5).one HCI.out.ci.len hbw.size ⟨r.tr, A5, r.sm, c5, r.st⟩ (hj.stay.imp fun W' h => ⟨HRA.out.sl, hs2, h⟩) hj.cap (fun k e => (HCI.out.ci.q.own.lt k e).2) HCI.out.ci.bel.size (by omega)
        have hnb := h2.out.2.2.1
        have hqo := (HCI.out.ci.q.below hb5).own
        have hold : ∀ s ∈ l, OwnI w5 w.heap.size (.slice s.sA s.sm s.sc) s.st := fun s hs => (HCI.out.ow s hs).below hb5
        have hnew : OwnI w5 w.heap.size (.slice A5 r.sm c5) r.st := hj.own.lower HCI.out.ci.bel.size
        refine ⟨_, w', h1, B1, c1, _, rfl, ⟨hbw.trans h2.out.2.1, h2.out.1, ?_, by rw [List.length_append, HCI.out.ci.len]; rfl⟩, fun s hs => ?_, fun a b ra rb ha hb hab k h3 h4 => ?_⟩
        · rw [ros_snoc, HCI.out.ci.eq, Ar.take_snoc _ _ _ (ros_at HRR.out)]
          rfl
        · rcases List.mem_append.1 hs with hs | hs
          · exact (hold s hs).keepB fun k e => hnb k ((hold s hs).lt k e).2 fun e2 => own_ne hqo (hold s hs) k e2 e
          · obtain rfl := List.mem_singleton.1 hs
            exact hnew.keepB fun k e => hnb k (hnew.lt k e).2 fun e2 => own_ne hqo hnew k e2 e
        · have hlt : ∀ (j : Nat) (s : Rd), (l ++ [⟨r.tr, A5, r.sm, c5, r.st⟩])[j]? = some s → l[j]? = some s ∨ j = l.length ∧ s = ⟨r.tr, A5, r.sm, c5, r.st⟩ := fun j s h => by
            by_cases hj : j < l.length
            · rw [List.getElem?_append_left hj] at h; exact .inl h
            · rw [List.getElem?_append_right (by omega)] at h
              have h5 := (List.getElem?_eq_some_iff.1 h).1
              simp at h5
              have h6 : j = l.length := by omega
              subst h6
              simp at h
              exact .inr ⟨rfl, h.symm⟩
          rcases hlt a ra ha with ha2 | ⟨ha2, rfl⟩ <;> rcases hlt b rb hb with hb2 | ⟨hb2, rfl⟩
          · exact HCI.out.ds a b ra rb ha2 hb2 hab k h3 h4
          · have h5 := ((HCI.out.ow ra (List.mem_of_getElem? ha2)).lt k h3).2
            have h6 := (hj.own.lt k h4).1
            omega
          · have h5 := ((HCI.out.ow rb (List.mem_of_getElem? hb2)).lt k h4).2
            have h6 := (hj.own.lt k h3).1
            omega
          · exact hab (ha2.trans hb2.symm)
      have HY5 : Hid (∀ (w5 : World) (A5 : Option Addr) (c5 : Nat), J1 W none 0 r.st (.slice A5 r.sm c5) w5 → w5.cell? (ad.add (i * 2)) = some (.int .i64 r.tr)) := fun w5 A5 c5 hj => (HZ.out w5 (below_next HCI.out.ci.bel hj.bel)).1
      obtain rfl := hA
      clear hrr hz0 hz1
      go_upto_region 5 with fail
      obtain ⟨z0, z1⟩ := HZ.out W HCI.out.ci.bel
      obtain ⟨y0, y1⟩ := HZ.out (W.alloc (.cells #[] 3)) (below_next HCI.out.ci.bel (below_alloc W (.cells #[] 3)))
      go_region_law (first
        | (refine step_append_w (w5.alloc (.cells #[.int .i64 r.tr, .slice A5 r.sm c5] 49)) (by with_reducible rfl) (by rfl) (.tmp 12) (.tmp 26) 29 29 29 (by rfl) (by rfl) (.slice B i cc) (.slice (some ⟨w5.heap.size, 0, none⟩) 1 1) (by rfl) (by rfl) _ HAP.out ?_
           rintro v2 w6 ⟨B1, c1, l1, rfl, HF⟩)
        | (refine step_append_w ((W.alloc (.cells #[] 3)).drew) (by with_reducible rfl) (by rfl) (.tmp 18) (.tmp 23) 30 30 30 (by rfl) (by rfl) (.slice (some ⟨W.heap.size, 0, none⟩) 0 0) (.slice r.sA r.sm r.sc) (by rfl) (by rfl) _ HA1.out ?_
           rintro v1 w5 ⟨A5, c5, rfl, HJ⟩
           have HAP := Lib.hid (HA2.out _ _ _ HJ.out)
           have t5 := HY5.out _ _ _ HJ.out))
      all_goals
        clear z0 z1 y0 y1
        go_wp2
        go_roundg gk
        case measure => omega
        case rel => exact ⟨i + 1, c1, B1, l1, _, rfl, by omega, by first | rfl | go_num, by first | rfl | go_num, HF.out⟩
    · obtain rfl : i = n := by omega
      go_wp2
      go_ret
      exact ⟨B, cc, l, rfl, HCI.out⟩

/-- a number is stored into a row of one's own -/
theorem OwnI.set {W : World} {base g n c k : Nat} {l : List Int} (h : OwnI W base (.slice (some ⟨g, 0, none⟩) n c) l) (hk : k < l.length) (z : Int) : OwnI (W.setCell ⟨g, k, none⟩ (.int .i64 z)) base (.slice (some ⟨g, 0, none⟩) n c) (l.set k z) := by
  obtain ⟨h1, h2⟩ := h
  unfold OwnI
  refine ⟨by simp, ?_⟩
  rcases h2 with ⟨e, _⟩ | ⟨g', cap, cur, hv, hg, hh, hnc, hcm, hcs, hct⟩
  · cases e
  · have hv' := hv
    injection hv with hv e2 e3
    obtain rfl : g = g' := by injection hv with hv; injection hv with hv
    refine .inr ⟨g, cap, cur.setIfInBounds k (.int .i64 z), by rw [List.length_set]; exact hv', hg, ?_, by rw [List.length_set]; exact hnc, hcm, by simpa using hcs, ?_⟩
    · rw [setCell_eq_setRow W g _ _ _ _ _ hh, setRow_heap W g _ _ _ _ hh]
    · rw [Array.toList_setIfInBounds, List.take_set, List.length_set, hct, List.map_set]
/-- copied routes, of which the stops of one are turned place by place -/
structure TU (lo g n c : Nat) (rl : List Rd) (i : Nat) (r : Rd) (st : List Int) (U : World) : Prop where
  own : OwnQ U lo (.slice (some ⟨g, 0, none⟩) n c) rl
  ow : ∀ (j : Nat) (s : Rd), j ≠ i → rl[j]? = some s → OwnI U lo (.slice s.sA s.sm s.sc) s.st
  one : OwnI U lo (.slice r.sA r.sm r.sc) st
  cp : ∀ s ∈ rl, s.sm ≤ s.sc ∧ s.sm ≤ 1000
theorem TU.store {lo g n c gs k i : Nat} {rl : List Rd} {r : Rd} {st : List Int} {U : World} (h : TU lo g n c rl i r st U) (hr : rl[i]? = some r) (hA : r.sA = some ⟨gs, 0, none⟩) (hds : ∀ (j : Nat) (s : Rd), j ≠ i → rl[j]? = some s → (Value.slice s.sA s.sm s.sc).ownBlock ≠ some gs) (hk : k < st.length) (z : Int) : TU lo g n c rl i r (st.set k z) (U.setCell ⟨gs, k, none⟩ (.int .i64 z)) := by
  have hone := h.one
  rw [hA] at hone
  have hb : ∀ j, j ≠ gs → (U.setCell ⟨gs, k, none⟩ (.int .i64 z)).heap[j]? = U.heap[j]? := fun j hj => Go.Deep.blk_setCell_other _ _ _ _ hj
  have hgg : g ≠ gs := fun e => own_ne h.own hone gs (by rw [e]; rfl) rfl
  refine ⟨h.own.at_ (hb g hgg), fun j s hj hs => (h.ow j s hj hs).keepB fun q e => hb q fun e2 => ?_, by rw [hA]; exact hone.set hk z, h.cp⟩
  rw [e2] at e
  exact hds j s hj hs e
theorem TU.ql {lo g n c i : Nat} {rl : List Rd} {r : Rd} {st : List Int} {U : World} (h : TU lo g n c rl i r st U) (hr : rl[i]? = some r) : QLs U lo (.slice (some ⟨g, 0, none⟩) n c) (rl.set i ⟨r.tr, r.sA, r.sm, r.sc, st⟩) := by
  have hc : rCells (rl.set i ⟨r.tr, r.sA, r.sm, r.sc, st⟩) = rCells rl := by
    rw [rc_set hr]
    apply List.ext_getElem?
    intro j
    rw [List.getElem?_set]
    split
    · rename_i e
      subst e
      split
      · exact (rc_at hr).2.symm
      · rename_i e; exact absurd (List.getElem?_eq_some_iff.1 (rc_at hr).2).1 e
    · rfl
  have hst : ∀ (s : Rd) (l' : List Int), OwnI U lo (.slice s.sA s.sm s.sc) l' → s.sm ≤ 1000 → St U lo (Value.slice (some ⟨g, 0, none⟩) n c).ownBlock fun W' => RAt W' ⟨s.tr, s.sA, s.sm, s.sc, l'⟩ := fun s l' ho hs => by
    obtain ⟨A', c', e, _, _, h1⟩ := ho.ints
    injection e with e1 e2 e3
    rw [← e1] at h1
    refine (St.ints h1 fun ad e => ?_).imp fun W' h => ⟨e2.symm, hs, h⟩
    rcases ho.2 with ⟨e4, _⟩ | ⟨gg, cap, cur, e4, hg, _⟩
    · injection e4 with e4; rw [e4] at e; cases e
    · have e5 := e4
      injection e4 with e4
      rw [e4] at e
      obtain rfl := Option.some.inj e
      exact ⟨hg, fun e6 => own_ne h.own ho gg e6.symm (by rw [e5]; rfl)⟩
  refine ⟨?_, fun s hs => ?_, fun s hs => ?_⟩
  · have h1 := h.own
    unfold OwnQ at h1 ⊢
    rw [hc, List.length_set]
    exact h1
  · obtain ⟨j, hj⟩ := List.getElem?_of_mem hs
    by_cases e : i = j
    · subst e
      rw [List.getElem?_set_self (List.getElem?_eq_some_iff.1 hr).1] at hj
      obtain rfl := Option.some.inj hj
      exact hst r st h.one (h.cp r (List.mem_of_getElem? hr)).2
    · rw [List.getElem?_set_ne e] at hj
      exact hst s s.st (h.ow j s (Ne.symm e) hj) (h.cp s (List.mem_of_getElem? hj)).2
  · rcases List.mem_or_eq_of_mem_set hs with h1 | h1
    · exact (h.cp s h1).1
    · subst h1; exact (h.cp r (List.mem_of_getElem? hr)).1
end Go.Proofs.YtgjmlnpfkmpfgaaGreat
end
