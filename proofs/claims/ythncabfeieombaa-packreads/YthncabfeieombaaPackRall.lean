/- Contracts: package pack reads all values of bytes. -/
import Derived.Test.YthncabfeieombaaPackRc
namespace Go.Proofs.Ythncabfeieombaa
open Go.RowKit

/-- what readAll tells -/
def AllPost (x : Nat × List Pk.V) (w : World) (e : Ending) (w' : World) : Prop :=
  ∃ v, e = .returned (.tuple #[v, .int .i64 (x.1 : Int)]) ∧ w'.ownsRow w.heap.size 34 2 v x.2.length (vcs x.2) ∧ Below w.heap.size w w'

/-- readAll's memory: its two results' variables, its reader, its values -/
structure ASt (A : Option Addr) (n c : Nat) (l : Pk.Bs) (w W : World) (g : Nat) (u : Value) (acc : List Pk.V) (k : Nat) : Prop where
  bx : Bx W g 22 u
  be : Bx W (g + 1) 26 (.int .i64 0)
  ost : OSt (g + 3) (g + 2) g A n c l W W u acc k
  bel : Below g w W

theorem ASt.drewN {A : Option Addr} {n c : Nat} {l : Pk.Bs} {w W : World} {g : Nat} {u : Value} {acc : List Pk.V} {k : Nat} (h : ASt A n c l w W g u acc k) (m : Nat) : ASt A n c l w (W.drewN m) g u acc k :=
  ⟨h.bx, h.be, ⟨h.ost.own, h.ost.rd, Aside.refl _ _ _, h.ost.byt, h.ost.bas, h.ost.rb⟩, ⟨h.bel.os, h.bel.tape, h.bel.output, h.bel.size, h.bel.block⟩⟩

theorem ASt.panicked {A : Option Addr} {n c : Nat} {l : Pk.Bs} {w W W' : World} {g : Nat} {u : Value} {acc : List Pk.V} {k : Nat} (h : ASt A n c l w W g u acc k) (ha : Aside (g + 3) (g + 2) W W') :
    Bx W' g 22 u ∧ Bx W' (g + 1) 26 (.int .i64 0) ∧ Below g w W' :=
  ⟨(ha.block g (by omega) (by omega)).trans h.bx, (ha.block (g + 1) (by omega) (by omega)).trans h.be, h.bel.trans (ha.below g (by omega) (by omega))⟩

theorem ASt.next {A : Option Addr} {n c : Nat} {l : Pk.Bs} {w W W' : World} {g : Nat} {u u' : Value} {acc acc' : List Pk.V} {k k' : Nat} (h : ASt A n c l w W g u acc k) (ho : OSt (g + 3) (g + 2) g A n c l W W' u' acc' k') :
    W'.cell? ⟨g, 0, none⟩ = some u ∧ W'.frozen? ⟨g, 0, none⟩ = false ∧ ASt A n c l w (W'.setCell ⟨g, 0, none⟩ u') g u' acc' k' := by
  obtain ⟨h1, h2, h3⟩ := h.panicked ho.asd
  refine ⟨h1.cell, h1.fz, h1.set u', h2.far (p := ⟨g, 0, none⟩) (by simp) u', ⟨?_, ?_, Aside.refl _ _ _, ?_, ?_, ho.rb⟩, h3.setCell (p := ⟨g, 0, none⟩) (Nat.le_refl _) u'⟩
  · exact ownsRow_setCell_below ho.own (a := ⟨g, 0, none⟩) (by simp) u'
  · exact (Below.heap_setCell W' ⟨g, 0, none⟩ u' (g + 2) (by simp)).trans ho.rd
  · exact ho.byt.keep fun p hp => World.cell?_of_block (Below.heap_setCell W' ⟨g, 0, none⟩ u' p.block (by simp; omega))
  · have := ho.bas
    simpa [World.setCell] using this

theorem ASt.start {A : Option Addr} {n c : Nat} {l : Pk.Bs} (w : World) (hb : BytesIn w w.heap.size A l) :
    ASt A n c l w (((w.alloc (.cells #[.slice none 0 0] 22)).alloc (.cells #[.int .i64 0] 26)).alloc (.cells #[.slice A n c, .int .i64 0] 66)) w.heap.size (.slice none 0 0) [] 0 := by
  have b1 : Bx (w.alloc (.cells #[.slice none 0 0] 22)) w.heap.size 22 (.slice none 0 0) := heap_alloc_new w _
  have b2 : Bx ((w.alloc (.cells #[.slice none 0 0] 22)).alloc (.cells #[.int .i64 0] 26)) (w.heap.size + 1) 26 (.int .i64 0) := by
    have := heap_alloc_new (w.alloc (.cells #[.slice none 0 0] 22)) (.cells #[.int .i64 0] 26)
    simpa [Bx] using this
  have b3 : RdAt (((w.alloc (.cells #[.slice none 0 0] 22)).alloc (.cells #[.int .i64 0] 26)).alloc (.cells #[.slice A n c, .int .i64 0] 66)) (w.heap.size + 2) A n c 0 := by
    have := heap_alloc_new ((w.alloc (.cells #[.slice none 0 0] 22)).alloc (.cells #[.int .i64 0] 26)) (.cells #[.slice A n c, .int .i64 0] 66)
    simpa [RdAt] using this
  have hbel : Below w.heap.size w (((w.alloc (.cells #[.slice none 0 0] 22)).alloc (.cells #[.int .i64 0] 26)).alloc (.cells #[.slice A n c, .int .i64 0] 66)) :=
    ((((Below.refl _ _).alloc (Nat.le_refl _) _).alloc (by simp) _).alloc (by simp; omega) _)
  exact ⟨(b1.alloc _).alloc _, b2.alloc _, ⟨World.ownsRow_nil _ _ _ _, b3, Aside.refl _ _ _, hb.below hbel (Nat.le_refl _), by simp, by omega⟩, hbel⟩

theorem once_len : ∀ (cs : Pk.Bs) (acc : List Pk.V) (bs : Pk.Bs) (acc' : List Pk.V) (t : Pk.Bs), Pk.once cs acc bs = .ok (acc', t) → acc'.length = acc.length + cs.length ∧ acc'.length + t.length ≤ acc.length + bs.length ∧ t.length + cs.length ≤ bs.length := by
  intro cs
  induction cs with
  | nil => intro acc bs acc' t h; rw [Pk.once] at h; injection h with h; injection h with h1 h2; subst h1 h2; simp
  | cons c cs ih =>
    intro acc bs acc' t h
    rw [Pk.once] at h
    cases hv : Pk.takeV c bs with
    | error e => rw [hv] at h; cases h
    | ok p =>
      obtain ⟨v, r⟩ := p
      rw [hv] at h
      have h1 := Pk.takeV_less _ _ _ _ hv
      have h2 := ih _ _ _ _ h
      simp only [List.length_append, List.length_cons, List.length_nil] at h2 ⊢
      omega

theorem once_rest : ∀ (cs : Pk.Bs) (l : Pk.Bs) (k : Nat) (acc : List Pk.V) (acc' : List Pk.V) (t : Pk.Bs), k ≤ l.length → Pk.once cs acc (l.drop k) = .ok (acc', t) → t = l.drop (l.length - t.length) := by
  intro cs
  induction cs with
  | nil =>
    intro l k acc acc' t hk h
    rw [Pk.once] at h; injection h with h; injection h with h1 h2; subst h1 h2
    rw [List.length_drop]
    congr 1
    omega
  | cons c cs ih =>
    intro l k acc acc' t hk h
    rw [Pk.once] at h
    cases hv : Pk.takeV c (l.drop k) with
    | error e => rw [hv] at h; cases h
    | ok p =>
      obtain ⟨v, r⟩ := p
      rw [hv] at h
      obtain ⟨h1, h2⟩ := takeV_rest _ _ _ _ _ hv
      simp only at h
      rw [h2] at h
      exact ih l (l.length - r.length) _ _ _ (by omega) h

/-- how readAll leaves: a fault is recovered -/
theorem fault_one (q : Nat) : fault q = [{ v := .iface 62 (.agg #[.int .i64 (q : Int)]), recovered := false }] := rfl

theorem atEnd_st {A : Option Addr} {n c : Nat} {l : Pk.Bs} {w : World} {g : Nat} {u : Value} {acc : List Pk.V} {k : Nat} (W : World) (h : ASt A n c l w W g u acc k) :
    Calls Try.prog 31 #[.pointer (some ⟨g + 2, 0, none⟩)] W fun e w' => e = .returned (.bool (decide (k = n))) ∧ ASt A n c l w w' g u acc k :=
  (atEnd_any (g + 2) A n c k W h.ost.rd).mono fun _ _ ⟨he, m, hw⟩ => ⟨he, hw ▸ h.drewN m⟩

theorem own_mono {w : World} {base base' : Nat} {e : TypeId} {size n : Nat} {v : Value} {xs : List Value} (h : w.ownsRow base e size v n xs) (hb : base' ≤ base) : w.ownsRow base' e size v n xs := by
  refine ⟨h.1, ?_⟩
  rcases h.2 with h2 | ⟨g, cap, cur, h1, h2, h3⟩
  · exact .inl h2
  · exact .inr ⟨g, cap, cur, h1, Nat.le_trans hb h2, h3⟩

theorem ASt.final {A : Option Addr} {n c : Nat} {l : Pk.Bs} {w W w9 : World} {g : Nat} {v : Value} {acc : List Pk.V} {k : Nat} (h : ASt A n c l w W g v acc k)
    (hg : ((W.setCell ⟨g, 0, none⟩ v).setCell ⟨g + 1, 0, none⟩ (.int .i64 0)).grownBy w9 none) :
    w9.cell? ⟨g, 0, none⟩ = some v ∧ w9.cell? ⟨g + 1, 0, none⟩ = some (.int .i64 0) ∧ w9.ownsRow g 34 2 v acc.length (vcs acc) ∧ Below g w w9 := by
  have b1 : Bx ((W.setCell ⟨g, 0, none⟩ v).setCell ⟨g + 1, 0, none⟩ (.int .i64 0)) g 22 v := (h.bx.set v).far (p := ⟨g + 1, 0, none⟩) (by simp) _
  have b2 : Bx ((W.setCell ⟨g, 0, none⟩ v).setCell ⟨g + 1, 0, none⟩ (.int .i64 0)) (g + 1) 26 (.int .i64 0) := (h.be.far (p := ⟨g, 0, none⟩) (by simp) v).set _
  have b3 : ((W.setCell ⟨g, 0, none⟩ v).setCell ⟨g + 1, 0, none⟩ (.int .i64 0)).ownsRow (g + 3) 34 2 v acc.length (vcs acc) :=
    ownsRow_setCell_below (ownsRow_setCell_below h.ost.own (a := ⟨g, 0, none⟩) (by simp) v) (a := ⟨g + 1, 0, none⟩) (by simp) _
  have b4 : Below g w ((W.setCell ⟨g, 0, none⟩ v).setCell ⟨g + 1, 0, none⟩ (.int .i64 0)) := (h.bel.setCell (p := ⟨g, 0, none⟩) (Nat.le_refl _) v).setCell (p := ⟨g + 1, 0, none⟩) (by simp) _
  have c1 : Bx w9 g 22 v := (hg.block g b1.lt (by simp)).trans b1
  have c2 : Bx w9 (g + 1) 26 (.int .i64 0) := (hg.block (g + 1) b2.lt (by simp)).trans b2
  refine ⟨c1.cell, c2.cell, own_mono (b3.kept hg ?_) (by omega), b4.grown hg (Nat.le_of_lt b1.lt) (fun k e => by cases e)⟩
  cases e : v.ownBlock with
  | none => exact .inl rfl
  | some x => exact .inr (by simp)

theorem ends_4 {a : List Pk.V} (h : 200 < a.length) : Pk.ends a [] = (4, []) := by unfold Pk.ends; rw [if_neg (by simp), if_pos h]
theorem ends_0 {a : List Pk.V} (h : ¬ 200 < a.length) : Pk.ends a [] = (0, a) := by unfold Pk.ends; rw [if_neg (by simp), if_neg h]
theorem ends_2 {a : List Pk.V} {b : Pk.Bs} (h : b ≠ []) : Pk.ends a b = (2, []) := by
  unfold Pk.ends
  cases b with
  | nil => exact absurd rfl h
  | cons x y => rfl
theorem readV_stop {ls : Pk.Bs} {o : Bool} {N : Nat} {a : List Pk.V} {b : Pk.Bs} (h : Pk.stop ls o a.length b = true) (hN : 0 < N) : Pk.readV ls o N a b = Pk.ends a b := by
  obtain ⟨N, rfl⟩ : ∃ k, N = k + 1 := ⟨N - 1, by omega⟩
  rw [Pk.readV, if_pos h]

set_option maxHeartbeats 4000000 in
set_option maxRecDepth 100000 in
theorem readAll_again (L : ByteArray) (A : Option Addr) (n c : Nat) (l : Pk.Bs) (w : World) (hb : BytesIn w w.heap.size A l)
    (hn : l.length = n) (hnc : n ≤ c) (hc : c ≤ maxLen) (hL : L.size ≤ 1000) (hL0 : 0 < L.size) (hlen : n ≤ 20000) :
    Calls Try.prog 25 #[.string L, .bool true, .slice A n c] w fun e w' => AllPost (Pk.readV (bs L) true (n + 1) [] l) w e w' := by
  have hmf : ∀ (fn : Fn) (first cap : Array Value) (w : World), (Instr.makeFunc fn first cap).run Try.prog w = .ok (.func fn first cap) w := fun _ _ _ _ => rfl
  have HST := Lib.hid (ASt.start (A := A) (n := n) (c := c) (l := l) w hb)
  have HN := Lib.hid hn
  have HCO := Lib.hid (fun (g : Nat) (W : World) (u : Value) (acc : List Pk.V) (k : Nat) (h : ASt A n c l w W g u acc k) (hk : k ≤ n) (hl : acc.length + (n - k) ≤ 30000) => appendOnce_any (g + 3) (g + 2) g A n c k l L acc u W h.ost hn hnc hc hk (by omega) hL hl)
  generalize hX : Pk.readV (bs L) true (n + 1) [] l = X
  have HX := Lib.hid hX
  clear hX hb hnc hc hn
  go_enter_defers Try.func25, Try.ntmps25
  go_wp2
  rw [show w.heap.size + 1 + 1 = w.heap.size + 2 from rfl]
  generalize hW : ((w.alloc (.cells #[.slice none 0 0] 22)).alloc (.cells #[.int .i64 0] 26)).alloc (.cells #[.slice A n c, .int .i64 0] 66) = W0 at *
  clear hW
  generalize hG : w.heap.size = g at *
  have HG := Lib.hid hG
  clear hG
  go_loopg [16] n (fun gk _ W => ∃ (k : Nat) (a : List Pk.V) (u : Value), k + gk = n ∧ a.length + (n - k) ≤ 30000 ∧ Hid (ASt A n c l w W g u a k) ∧ Hid (∃ N, (l.drop k).length < N ∧ Pk.readV (bs L) true N a (l.drop k) = X) ∧ a.length % L.size = 0)
  case atStart => exact ⟨0, [], _, by omega, by simp; omega, HST.out, ⟨n + 1, by rw [List.drop_zero, HN.out]; omega, HX.out⟩, by simp⟩
  case round =>
    obtain ⟨k, a, u, hkg, hal, HS, HR, hmod⟩ := hrel
    have HAE := Lib.hid (atEnd_st wr HS.out)
    by_cases hkn : k = n
    · rw [decide_eq_true hkn] at HAE
      have HAF : Hid (∀ W, ASt A n c l w W g u a k → Calls Try.prog 31 #[.pointer (some ⟨g + 2, 0, none⟩)] W fun e w' => e = .returned (.bool true) ∧ ASt A n c l w w' g u a k) := fun W h => by
        have := atEnd_st W h
        rw [decide_eq_true hkn] at this
        exact this
      have HE : Hid (X = Pk.ends a []) := by
        obtain ⟨N, hN, hR⟩ := HR.out
        rw [List.drop_of_length_le (by rw [HN.out]; omega)] at hR hN
        unfold Hid
        rw [← hR, readV_stop (by unfold Pk.stop; rw [bs_length, if_pos rfl, hmod]; rfl) (by simpa using hN)]
      obtain ⟨A', c', rfl, _, hcc, _, _⟩ := ownsRow_slice HS.out.ost.own
      clear HR hkn
      by_cases h200 : 200 < a.length
      · have d1 : decide ((200 : Int) < (a.length : Int)) = true := decide_eq_true (by omega)
        have HXE : Hid (X = (4, [])) := HE.out.trans (ends_4 h200)
        clear h200 HE hmod
        go_wp2_with (first
          | (go_at_call 31; refine HAE.out.mono ?_; rintro e w1 ⟨rfl, hs1⟩; have HS1 := Lib.hid hs1; clear hs1)
          | (go_at_call 31; refine (HAF.out w1 HS1.out).mono ?_; rintro e w2 ⟨rfl, hs2⟩; have hc2 := hs2.bx.cell; have HPK := Lib.hid (hs2.panicked (Aside.refl _ _ _)); clear hs2))
        obtain ⟨hb1, hb2, hb3⟩ := HPK.out
        refine leaves_cons (f := 30) (args := #[.pointer (some ⟨g, 0, none⟩), .pointer (some ⟨g + 1, 0, none⟩)]) (by simp) (by simp [go_sem]) ?_
        refine (catch_fault g (g + 1) ((4 : Nat) : Int) _ _ w2 hb1 hb2 (by omega)).mono ?_
        rintro e u' w9 ⟨rfl, rfl, h1, h2, hbl⟩
        have c1 := h1.cell
        have c2 := h2.cell
        have hbl9 := HG.out ▸ hb3.trans (hbl g (Nat.le_refl _) (by omega))
        simp [Leaves, settle, results, Try.results25, go_sem, c1, c2]
        rw [HXE.out]
        exact ⟨_, rfl, World.ownsRow_nil _ _ _ _, hbl9⟩
      · have d1 : decide ((200 : Int) < (a.length : Int)) = false := decide_eq_false (by omega)
        have HXO : Hid (X = (0, a)) := HE.out.trans (ends_0 h200)
        clear h200 HE hmod
        go_wp2_with (first
          | (go_at_call 31; refine HAE.out.mono ?_; rintro e w1 ⟨rfl, hs1⟩; have HS1 := Lib.hid hs1; clear hs1)
          | (go_at_call 31; refine (HAF.out w1 HS1.out).mono ?_; rintro e w2 ⟨rfl, hs2⟩; have hc2 := hs2.bx.cell; have hz2 := hs2.bx.fz; have hc3 := hs2.be.cell; have hz3 := hs2.be.fz; have HS2 := Lib.hid hs2; clear hs2))
        refine leaves_cons (f := 30) (args := #[.pointer (some ⟨g, 0, none⟩), .pointer (some ⟨g + 1, 0, none⟩)]) (by simp) (by simp [go_sem]) ?_
        refine (catch_idle ⟨g, 0, none⟩ ⟨g + 1, 0, none⟩ _).mono ?_
        rintro e u' w9 ⟨rfl, rfl, hg9⟩
        obtain ⟨c1, c2, ho9, hb9⟩ := HS2.out.final hg9
        have hbl9 := HG.out ▸ hb9
        have hol9 := HG.out ▸ ho9
        simp [Leaves, settle, results, Try.results25, go_sem, c1, c2]
        rw [HXO.out]
        exact ⟨_, rfl, hol9, hbl9⟩
    · rw [decide_eq_false hkn] at HAE
      have hkl : k < n := by omega
      have HCW : Hid (∀ W, ASt A n c l w W g u a k → Calls Try.prog 32 #[.pointer (some ⟨g + 2, 0, none⟩), u, .string L] W fun e w' => OncePost (Pk.once (bs L) a (l.drop k)) (g + 3) (g + 2) g A n c l W e w') := fun W h => HCO.out g W u a k h (by omega) hal
      obtain ⟨N, hN, hR⟩ := HR.out
      have HOR := Pk.once_read (bs L) true (bs L) [] a (l.drop k) N rfl hN (fun _ => by rw [bs_length, hmod]; simp) (fun h => by cases h)
        (fun _ _ => by rw [Ne, ← List.length_eq_zero_iff, List.length_drop, HN.out]; omega) (by rw [Ne, ← List.length_eq_zero_iff, bs_length]; omega)
      have HOL := Lib.hid (once_len (bs L) a (l.drop k))
      have HOT := Lib.hid (once_rest (bs L) l k a)
      clear HR hkn
      cases ho : Pk.once (bs L) a (l.drop k) with
      | error q =>
        rw [ho] at HCW HOR
        simp only at HOR
        have HXE : Hid (X = (q, [])) := hR.symm.trans HOR
        clear HOR HOL HOT ho hR hN hmod
        go_wp2_with (first
          | (go_at_call 31; refine HAE.out.mono ?_; rintro e w1 ⟨rfl, hs1⟩; have hc1 := hs1.bx.cell; have HS1 := Lib.hid hs1; clear hs1)
          | (go_at_call 32; refine (HCW.out w1 HS1.out).mono ?_; rintro e w2 ⟨rfl, ha2⟩; have HPK := Lib.hid (HS1.out.panicked ha2); clear ha2))
        obtain ⟨hb1, hb2, hb3⟩ := HPK.out
        refine leaves_cons (f := 30) (args := #[.pointer (some ⟨g, 0, none⟩), .pointer (some ⟨g + 1, 0, none⟩)]) (by simp) (by simp [go_sem]) ?_
        refine (catch_fault g (g + 1) ((q : Nat) : Int) _ _ w2 hb1 hb2 (by omega)).mono ?_
        rintro e u' w9 ⟨rfl, rfl, h1, h2, hbl⟩
        have c1 := h1.cell
        have c2 := h2.cell
        have hbl9 := HG.out ▸ hb3.trans (hbl g (Nat.le_refl _) (by omega))
        simp [Leaves, settle, results, Try.results25, go_sem, c1, c2]
        rw [HXE.out]
        exact ⟨_, rfl, World.ownsRow_nil _ _ _ _, hbl9⟩
      | ok p =>
        obtain ⟨a', t⟩ := p
        obtain ⟨hl1, hl2, hl3⟩ := HOL.out a' t ho
        have ht := HOT.out a' t (by rw [HN.out]; omega) ho
        rw [List.length_drop, HN.out] at hl2 hl3
        rw [bs_length] at hl1 hl3
        rw [HN.out] at ht
        have HTT := Lib.hid ht
        rw [ho] at HCW HOR
        simp only at HOR
        obtain ⟨N', hN', hR'⟩ := HOR
        have HRN : Hid (∃ N, (l.drop (n - t.length)).length < N ∧ Pk.readV (bs L) true N a' (l.drop (n - t.length)) = X) := ⟨N', by rw [← ht]; exact hN', by rw [← ht, ← hR']; exact hR⟩
        have hmod' : a'.length % L.size = 0 := by rw [hl1, Nat.add_mod_right]; exact hmod
        clear HOL HOT ho hR hN hR' hN' ht hl1
        have HNX : Hid (∀ w1 w2 u', ASt A n c l w w1 g u a k → OSt (g + 3) (g + 2) g A n c l w1 w2 u' a' (n - t.length) → w2.cell? ⟨g, 0, none⟩ = some u ∧ w2.frozen? ⟨g, 0, none⟩ = false ∧ ASt A n c l w (w2.setCell ⟨g, 0, none⟩ u') g u' a' (n - t.length)) := fun w1 w2 u' h1 h2 => h1.next h2
        go_wp2_with (first
          | (go_at_call 31; refine HAE.out.mono ?_; rintro e w1 ⟨rfl, hs1⟩; have hc1 := hs1.bx.cell; have HS1 := Lib.hid hs1; clear hs1)
          | (go_at_call 32; refine (HCW.out w1 HS1.out).mono ?_; rintro e w2 ⟨u2, rfl, hs2⟩; obtain ⟨A2, c2, rfl, _, _, _, _⟩ := ownsRow_slice hs2.own; obtain ⟨hc2, hz2, hs3⟩ := HNX.out w1 w2 _ HS1.out hs2; have HS3 := Lib.hid hs3; clear hs2 hs3))
        go_roundg (t.length)
        case measure => omega
        case rel => exact ⟨n - t.length, a', _, by omega, by omega, HS3.out, HRN.out, hmod'⟩

set_option maxHeartbeats 4000000 in
set_option maxRecDepth 100000 in
theorem readAll_once (L : ByteArray) (A : Option Addr) (n c : Nat) (l : Pk.Bs) (w : World) (hb : BytesIn w w.heap.size A l)
    (hn : l.length = n) (hnc : n ≤ c) (hc : c ≤ maxLen) (hL : L.size ≤ 1000) (hL0 : 0 < L.size) (hlen : n ≤ 20000) :
    Calls Try.prog 25 #[.string L, .bool false, .slice A n c] w fun e w' => AllPost (Pk.readV (bs L) false (n + 1) [] l) w e w' := by
  have hmf : ∀ (fn : Fn) (first cap : Array Value) (w : World), (Instr.makeFunc fn first cap).run Try.prog w = .ok (.func fn first cap) w := fun _ _ _ _ => rfl
  have HST := Lib.hid (ASt.start (A := A) (n := n) (c := c) (l := l) w hb)
  have HN := Lib.hid hn
  have HCO := Lib.hid (fun (g : Nat) (W : World) (u : Value) (acc : List Pk.V) (k : Nat) (h : ASt A n c l w W g u acc k) (hk : k ≤ n) (hl : acc.length + (n - k) ≤ 30000) => appendOnce_any (g + 3) (g + 2) g A n c k l L acc u W h.ost hn hnc hc hk (by omega) hL hl)
  generalize hX : Pk.readV (bs L) false (n + 1) [] l = X
  have HX := Lib.hid hX
  clear hX hb hnc hc hn
  have HCW0 := Lib.hid (HCO.out w.heap.size _ _ [] 0 HST.out (by omega) (by simp; omega))
  have HOR := Pk.once_read (bs L) false (bs L) [] [] l (n + 1) rfl (by rw [HN.out]; omega) (fun h => by cases h) (fun _ => rfl) (fun _ h => by cases h) (by rw [Ne, ← List.length_eq_zero_iff, bs_length]; omega)
  have HOL := Lib.hid (once_len (bs L) [] l)
  have HOT := Lib.hid (once_rest (bs L) l 0 [])
  rw [List.drop_zero] at HCW0 HOT
  have hc0 := HST.out.bx.cell
  rw [HX.out] at HOR
  clear HCO HX
  cases ho : Pk.once (bs L) [] l with
  | error q =>
    rw [ho] at HCW0 HOR
    simp only at HOR
    have HXE := Lib.hid HOR
    clear HOR HOL HOT ho
    go_enter_defers Try.func25, Try.ntmps25
    go_wp2_with fail
    rw [show w.heap.size + 1 + 1 = w.heap.size + 2 from rfl]
    generalize ((w.alloc (.cells #[.slice none 0 0] 22)).alloc (.cells #[.int .i64 0] 26)).alloc (.cells #[.slice A n c, .int .i64 0] 66) = W0 at *
    generalize hG : w.heap.size = g at *
    have HG := Lib.hid hG
    clear hG
    refine HCW0.out.mono ?_
    rintro e w2 ⟨rfl, ha2⟩
    have HPK := Lib.hid (HST.out.panicked ha2)
    clear ha2
    go_wp2
    obtain ⟨hb1, hb2, hb3⟩ := HPK.out
    refine leaves_cons (f := 30) (args := #[.pointer (some ⟨g, 0, none⟩), .pointer (some ⟨g + 1, 0, none⟩)]) (by simp) (by simp [go_sem]) ?_
    refine (catch_fault g (g + 1) ((q : Nat) : Int) _ _ w2 hb1 hb2 (by omega)).mono ?_
    rintro e u' w9 ⟨rfl, rfl, h1, h2, hbl⟩
    have c1 := h1.cell
    have c2 := h2.cell
    have hbl9 := HG.out ▸ hb3.trans (hbl g (Nat.le_refl _) (by omega))
    simp [Leaves, settle, results, Try.results25, go_sem, c1, c2]
    rw [HXE.out]
    exact ⟨_, rfl, World.ownsRow_nil _ _ _ _, hbl9⟩
  | ok p =>
    obtain ⟨a, t⟩ := p
    obtain ⟨hl1, hl2, hl3⟩ := HOL.out a t ho
    rw [HN.out] at hl2 hl3
    rw [bs_length] at hl1 hl3
    simp only [List.length_nil, Nat.zero_add] at hl1 hl2
    rw [ho] at HCW0 HOR
    simp only at HOR
    obtain ⟨N', hN', hR'⟩ := HOR
    have HE : Hid (X = Pk.ends a t) := by
      unfold Hid
      rw [hR', readV_stop (by unfold Pk.stop; rw [bs_length, if_neg (by decide), hl1]; simp) (by omega)]
    have HAF : Hid (∀ (W : World) (g : Nat) (u : Value), ASt A n c l w W g u a (n - t.length) → Calls Try.prog 31 #[.pointer (some ⟨g + 2, 0, none⟩)] W fun e w' => e = .returned (.bool (decide (n - t.length = n))) ∧ ASt A n c l w w' g u a (n - t.length)) := fun W g u h => atEnd_st W h
    clear HOL HOT ho hR' hN' hl1
    cases t with
    | cons b t =>
      have HXE : Hid (X = (2, [])) := HE.out.trans (ends_2 (by simp))
      rw [decide_eq_false (by simp only [List.length_cons] at hl2 hl3 ⊢; omega)] at HAF
      clear HE
      go_enter_defers Try.func25, Try.ntmps25
      go_wp2_with fail
      rw [show w.heap.size + 1 + 1 = w.heap.size + 2 from rfl]
      generalize ((w.alloc (.cells #[.slice none 0 0] 22)).alloc (.cells #[.int .i64 0] 26)).alloc (.cells #[.slice A n c, .int .i64 0] 66) = W0 at *
      generalize hG : w.heap.size = g at *
      have HG := Lib.hid hG
      clear hG
      refine HCW0.out.mono ?_
      rintro e w2 ⟨u2, rfl, hs2⟩
      obtain ⟨A2, c2, rfl, _, hcc2, _, _⟩ := ownsRow_slice hs2.own
      obtain ⟨hc2, hz2, hs3⟩ := HST.out.next hs2
      have HS3 := Lib.hid hs3
      clear hs2 hs3
      go_wp2_with (go_at_call 31; refine (HAF.out _ _ _ HS3.out).mono ?_; rintro e w3 ⟨rfl, hs4⟩; have hc4 := hs4.bx.cell; have hz4 := hs4.bx.fz; have hc5 := hs4.be.cell; have hz5 := hs4.be.fz; have HPK := Lib.hid (hs4.panicked (Aside.refl _ _ _)); have HS4 := Lib.hid hs4; clear hs4)
      obtain ⟨hb1, hb2, hb3⟩ := HPK.out
      refine leaves_cons (f := 30) (args := #[.pointer (some ⟨g, 0, none⟩), .pointer (some ⟨g + 1, 0, none⟩)]) (by simp) (by simp [go_sem]) ?_
      refine (catch_fault g (g + 1) ((2 : Nat) : Int) _ _ w3 hb1 hb2 (by omega)).mono ?_
      rintro e u' w9 ⟨rfl, rfl, h1, h2, hbl⟩
      have c1 := h1.cell
      have c2 := h2.cell
      have hbl9 := HG.out ▸ hb3.trans (hbl g (Nat.le_refl _) (by omega))
      simp [Leaves, settle, results, Try.results25, go_sem, c1, c2]
      rw [HXE.out]
      exact ⟨_, rfl, World.ownsRow_nil _ _ _ _, hbl9⟩
    | nil =>
      rw [decide_eq_true (by simp)] at HAF
      by_cases h200 : 200 < a.length
      · have d1 : decide ((200 : Int) < (a.length : Int)) = true := decide_eq_true (by omega)
        have HXE : Hid (X = (4, [])) := HE.out.trans (ends_4 h200)
        clear h200 HE
        go_enter_defers Try.func25, Try.ntmps25
        go_wp2_with fail
        rw [show w.heap.size + 1 + 1 = w.heap.size + 2 from rfl]
        generalize ((w.alloc (.cells #[.slice none 0 0] 22)).alloc (.cells #[.int .i64 0] 26)).alloc (.cells #[.slice A n c, .int .i64 0] 66) = W0 at *
        generalize hG : w.heap.size = g at *
        have HG := Lib.hid hG
        clear hG
        refine HCW0.out.mono ?_
        rintro e w2 ⟨u2, rfl, hs2⟩
        obtain ⟨A2, c2, rfl, _, hcc2, _, _⟩ := ownsRow_slice hs2.own
        obtain ⟨hc2, hz2, hs3⟩ := HST.out.next hs2
        have HS3 := Lib.hid hs3
        clear hs2 hs3
        go_wp2_with (go_at_call 31; refine (HAF.out _ _ _ HS3.out).mono ?_; rintro e w3 ⟨rfl, hs4⟩; have hc4 := hs4.bx.cell; have hz4 := hs4.bx.fz; have hc5 := hs4.be.cell; have hz5 := hs4.be.fz; have HPK := Lib.hid (hs4.panicked (Aside.refl _ _ _)); have HS4 := Lib.hid hs4; clear hs4)
        obtain ⟨hb1, hb2, hb3⟩ := HPK.out
        refine leaves_cons (f := 30) (args := #[.pointer (some ⟨g, 0, none⟩), .pointer (some ⟨g + 1, 0, none⟩)]) (by simp) (by simp [go_sem]) ?_
        refine (catch_fault g (g + 1) ((4 : Nat) : Int) _ _ w3 hb1 hb2 (by omega)).mono ?_
        rintro e u' w9 ⟨rfl, rfl, h1, h2, hbl⟩
        have c1 := h1.cell
        have c2 := h2.cell
        have hbl9 := HG.out ▸ hb3.trans (hbl g (Nat.le_refl _) (by omega))
        simp [Leaves, settle, results, Try.results25, go_sem, c1, c2]
        rw [HXE.out]
        exact ⟨_, rfl, World.ownsRow_nil _ _ _ _, hbl9⟩
      · have d1 : decide ((200 : Int) < (a.length : Int)) = false := decide_eq_false (by omega)
        have HXO : Hid (X = (0, a)) := HE.out.trans (ends_0 h200)
        clear h200 HE
        go_enter_defers Try.func25, Try.ntmps25
        go_wp2_with fail
        rw [show w.heap.size + 1 + 1 = w.heap.size + 2 from rfl]
        generalize ((w.alloc (.cells #[.slice none 0 0] 22)).alloc (.cells #[.int .i64 0] 26)).alloc (.cells #[.slice A n c, .int .i64 0] 66) = W0 at *
        generalize hG : w.heap.size = g at *
        have HG := Lib.hid hG
        clear hG
        refine HCW0.out.mono ?_
        rintro e w2 ⟨u2, rfl, hs2⟩
        obtain ⟨A2, c2, rfl, _, hcc2, _, _⟩ := ownsRow_slice hs2.own
        obtain ⟨hc2, hz2, hs3⟩ := HST.out.next hs2
        have HS3 := Lib.hid hs3
        clear hs2 hs3
        go_wp2_with (go_at_call 31; refine (HAF.out _ _ _ HS3.out).mono ?_; rintro e w3 ⟨rfl, hs4⟩; have hc4 := hs4.bx.cell; have hz4 := hs4.bx.fz; have hc5 := hs4.be.cell; have hz5 := hs4.be.fz; have HPK := Lib.hid (hs4.panicked (Aside.refl _ _ _)); have HS4 := Lib.hid hs4; clear hs4)
        refine leaves_cons (f := 30) (args := #[.pointer (some ⟨g, 0, none⟩), .pointer (some ⟨g + 1, 0, none⟩)]) (by simp) (by simp [go_sem]) ?_
        refine (catch_idle ⟨g, 0, none⟩ ⟨g + 1, 0, none⟩ _).mono ?_
        rintro e u' w9 ⟨rfl, rfl, hg9⟩
        obtain ⟨c1, c2, ho9, hb9⟩ := HS4.out.final hg9
        have hbl9 := HG.out ▸ hb9
        have hol9 := HG.out ▸ ho9
        simp [Leaves, settle, results, Try.results25, go_sem, c1, c2]
        rw [HXO.out]
        exact ⟨_, rfl, hol9, hbl9⟩

end Go.Proofs.Ythncabfeieombaa
