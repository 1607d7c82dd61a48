/- Contracts of package bound: the least distance to the node of one of some orders. -/
import Derived.Test.YtbacakblboodeaaBndA
import Derived.Test.YtbacakblboodeaaBndSh
import Derived.StillTailTactics
namespace Go.Proofs.Ytbacakblboodeaa
open Go.RowKit
set_option linter.unusedVariables false
set_option maxRecDepth 100000

/-- one more number behind a row of one's own -/
theorem owni_put {W : World} {base : Nat} {A : Option Addr} {n c : Nat} {l : List Int} (h : OwnI W base (.slice A n c) l) (hb : base ≤ W.heap.size) (z : Int) (hs : l.length ≤ 1000) (M : Nat) (hM : (l ++ [z]).length = M) :
    ∃ v' w', (Builtin.append_ #[29, 29] 29 #[.slice A n c, .slice (some ⟨W.heap.size, 0, none⟩) 1 1]).run Try.prog (W.alloc (.cells #[.int .i64 z] 3)) = .ok v' w' ∧ ∃ A' c', v' = .slice A' M c' ∧ Hid (OwnI w' base (.slice A' M c') (l ++ [z]) ∧ Below base W w') := by
  have hbel : RowKit.Below W.heap.size W (W.alloc (.cells #[.int .i64 z] 3)) := below_alloc _ _
  have hx : IntsAt (W.alloc (.cells #[.int .i64 z] 3)) (some ⟨W.heap.size, 0, none⟩) [z] := box_ints (Box.new W _ _) rfl
  obtain ⟨v', w', h1, A', c', e, h2⟩ := owni_app (h.below hbel) (Nat.le_trans hb hbel.size) (some ⟨W.heap.size, 0, none⟩) 1 1 [z] rfl hx (by omega)
  rw [show l.length + 1 = M by rw [← hM, List.length_append]; rfl] at e
  subst e
  exact ⟨_, w', h1, A', c', rfl, h2.out.1, (hbel.mono hb).trans h2.out.2⟩
/-- one more number behind a row of one's own -/
theorem ownn_put {W : World} {base : Nat} {A : Option Addr} {n c : Nat} {l : List Int} (h : OwnN W base (.slice A n c) l) (hb : base ≤ W.heap.size) (z : Int) (hs : l.length ≤ 1000) (M : Nat) (hM : (l ++ [z]).length = M) :
    ∃ v' w', (Builtin.append_ #[22, 22] 22 #[.slice A n c, .slice (some ⟨W.heap.size, 0, none⟩) 1 1]).run Try.prog (W.alloc (.cells #[.int .i64 z] 2)) = .ok v' w' ∧ ∃ A' c', v' = .slice A' M c' ∧ Hid (OwnN w' base (.slice A' M c') (l ++ [z]) ∧ Below base W w') := by
  have hbel : RowKit.Below W.heap.size W (W.alloc (.cells #[.int .i64 z] 2)) := below_alloc _ _
  have hx : IntsAt (W.alloc (.cells #[.int .i64 z] 2)) (some ⟨W.heap.size, 0, none⟩) [z] := box_ints (Box.new W _ _) rfl
  obtain ⟨v', w', h1, A', c', e, h2⟩ := ownn_app (h.below hbel) (Nat.le_trans hb hbel.size) (some ⟨W.heap.size, 0, none⟩) 1 1 [z] rfl hx (by omega)
  rw [show l.length + 1 = M by rw [← hM, List.length_append]; rfl] at e
  subst e
  exact ⟨_, w', h1, A', c', rfl, h2.out.1, (hbel.mono hb).trans h2.out.2⟩

theorem erase_same {α : Type} {l : List α} {k : Nat} {x : α} (h : l[k]? = some x) : (l.take (k + 1)).eraseIdx k = (l.take k).eraseIdx k := by
  have hk := (List.getElem?_eq_some_iff.1 h).1
  have hl : (l.take k).length = k := by rw [List.length_take]; omega
  have e : l.take (k + 1) = l.take k ++ [x] := by rw [List.take_add_one, h]; rfl
  have e2 : (l.take k ++ [x]).eraseIdx k = l.take k := by
    rw [List.eraseIdx_append_of_length_le (by omega), hl, Nat.sub_self]
    simp
  rw [e, e2, List.eraseIdx_of_length_le (by omega)]
theorem erase_next {α : Type} {l : List α} {k t : Nat} {x : α} (h : l[k]? = some x) (ht : k ≠ t) : (l.take (k + 1)).eraseIdx t = (l.take k).eraseIdx t ++ [x] := by
  have hk := (List.getElem?_eq_some_iff.1 h).1
  have hl : (l.take k).length = k := by rw [List.length_take]; omega
  rw [List.take_add_one, h]
  show (l.take k ++ [x]).eraseIdx t = _
  by_cases hkt : k < t
  · rw [List.eraseIdx_of_length_le (by rw [List.length_append, hl]; show k + 1 ≤ t; omega), List.eraseIdx_of_length_le (by omega)]
  · rw [List.eraseIdx_append_of_lt_length (by omega)]
theorem frs_same {l : List Ld.O} {k : Nat} {o : Ld.O} (h : l[k]? = some o) : Bo.frs (l.take (k + 1)) k = Bo.frs (l.take k) k := by unfold Bo.frs; rw [erase_same h]
theorem frs_next {l : List Ld.O} {k t : Nat} {o : Ld.O} (h : l[k]? = some o) (ht : k ≠ t) : Bo.frs (l.take (k + 1)) t = Bo.frs (l.take k) t ++ [o.node] := by
  unfold Bo.frs
  rw [erase_next h ht, List.map_append]
  rfl
theorem frs_len (l : List Ld.O) (k t : Nat) : (Bo.frs (l.take k) t).length ≤ k + 1 := by
  unfold Bo.frs
  rw [List.length_cons, List.length_map]
  have h1 : ((l.take k).eraseIdx t).length ≤ (l.take k).length := List.length_eraseIdx_le ..
  have h2 : (l.take k).length ≤ k := by rw [List.length_take]; omega
  omega
theorem frs_all {l : List Ld.O} {k : Nat} (h : l.length ≤ k) (t : Nat) : Bo.frs (l.take k) t = Bo.frs l t := by rw [List.take_of_length_le h]
theorem frs_in {N : Int} (h0 : Ar.hasB N 0 = true) {l : List Ld.O} (hl : ∀ o ∈ l, Ar.hasB N o.node = true) (t : Nat) : ∀ f ∈ Bo.frs l t, Ar.hasB N f = true := fun f hf => by
  rcases List.mem_cons.1 hf with rfl | hf
  · exact h0
  · obtain ⟨p, hp, rfl⟩ := List.mem_map.1 hf
    exact hl p (List.mem_of_mem_eraseIdx hp)
theorem leg_is {N : Int} {D T : List Int} {f t : Int} (hok : Ar.okB N D T = true) (hf : Ar.hasB N f = true) (ht : Ar.hasB N t = true) : Ar.legS N D T f t = (Ar.at2 N D f t, Ar.at2 N T f t, 0) := by
  unfold Ar.legS
  rw [if_pos (Ar.told_ok hok (by rw [Ar.ins_cons, Ar.ins_cons, Ar.ins_nil, hf, ht]; rfl))]

theorem box_at (W : World) (b : Nat) (cs : Array Value) (t : TypeId) (hb : b = W.heap.size) : Box (W.alloc (.cells cs t)) b cs t := by
  subst hb
  exact Box.new _ _ _
/-- the boxes of nearest's three arguments -/
structure NrB (W : World) (b1 b2 b3 : Nat) (N : Int) (dA : Option Addr) (dm dc : Nat) (D : List Int) (tA : Option Addr) (tm tc : Nat) (T : List Int) (A : Option Addr) (m c : Nat) (l : List Ld.O) (t : Int) : Prop where
  a : Boxed W b1 N dA dm dc D tA tm tc T
  o : Box W b2 #[.slice A m c] 25
  t : Box W b3 #[.int .i64 t] 3
  os : OrdersAt W A l
theorem NrB.below {W W' : World} {b1 b2 b3 : Nat} {N : Int} {dA : Option Addr} {dm dc : Nat} {D : List Int} {tA : Option Addr} {tm tc : Nat} {T : List Int} {A : Option Addr} {m c : Nat} {l : List Ld.O} {t : Int}
    (h : NrB W b1 b2 b3 N dA dm dc D tA tm tc T A m c l t) (hb : Below W.heap.size W W') : NrB W' b1 b2 b3 N dA dm dc D tA tm tc T A m c l t := ⟨h.a.below hb, h.o.below hb, h.t.below hb, h.os.below hb⟩

set_option maxHeartbeats 2000000 in
theorem nearest1_b (N : Int) (dA : Option Addr) (dm dc : Nat) (D : List Int) (tA : Option Addr) (tm tc : Nat) (T : List Int) (A : Option Addr) (m c : Nat) (l : List Ld.O) (t : Nat) (b1 b2 b3 : Nat) (s r : Int) (w : World)
    (h : NrB w b1 b2 b3 N dA dm dc D tA tm tc T A m c l (t : Int)) (hm : l.length = m) (hm2 : m ≤ 1000) (ht : t < m) (hr : (Ar.legS N D T s (Bo.nd l t)).1 = r) :
    Calls Try.prog 49 #[.int .i64 s, .pointer (some ⟨b1, 0, none⟩), .pointer (some ⟨b2, 0, none⟩), .pointer (some ⟨b3, 0, none⟩)] w fun e w' => e = .returned (.int .i64 r) ∧ Hid (Below w.heap.size w w') := by
  obtain ⟨o, ho⟩ := mlist_at l t (by rw [hm]; exact ht)
  rw [Bo.nd_at ho] at hr
  obtain ⟨ad, hA, hc⟩ := h.os.at_ ho
  subst hA
  have HC := Lib.hid (far_b N dA dm dc D tA tm tc T s o.node r w.drew (h.a.rows.below (Below.refl _ _).drew) hr)
  have x0 : w.drew.cell? ⟨b1, 0, none⟩ = some (.int .i64 N) := h.a.c0
  have x1 : w.drew.cell? ⟨b1, 1, none⟩ = some (.slice dA dm dc) := h.a.c1
  have x2 : w.drew.cell? ⟨b1, 2, none⟩ = some (.slice tA tm tc) := h.a.c2
  have x3 : w.drew.cell? ⟨b2, 0, none⟩ = some (.slice (some ad) m c) := h.o.cell 0 _ rfl
  have x4 : w.drew.cell? ⟨b3, 0, none⟩ = some (.int .i64 t) := h.t.cell 0 _ rfl
  have x5 : w.drew.cell? ⟨(ad.add (t * 8)).block, (ad.add (t * 8)).off + 2, none⟩ = some (.int .i64 o.node) := hc.c2
  have i1 : (0 : Int) ≤ (t : Int) := by omega
  have i2 : (t : Int) < (m : Int) := by omega
  generalize o.node = n at *
  clear h hc ho hr hm
  go_enter Try.func49, Try.ntmps49
  go_wp2_with fail
  go_still_tail 7, (by kernel_rfl)
  go_wp2_with fail
  with_reducible refine HC.out.mono ?_
  rintro e w1 ⟨rfl, hb1⟩
  go_wp2
  go_ret
  exact ⟨rfl, below_next (Below.refl w.heap.size w).drew hb1.out⟩

set_option maxHeartbeats 4000000 in
theorem nearest_b (N : Int) (dA : Option Addr) (dm dc : Nat) (D : List Int) (tA : Option Addr) (tm tc : Nat) (T : List Int) (A : Option Addr) (m c : Nat) (l : List Ld.O) (t : Nat) (r : Int) (w : World)
    (h : AreaAt w dA dm D tA tm T) (hok : Ar.okB N D T = true) (hl : OrdersAt w A l) (hn : ∀ o ∈ l, Ar.hasB N o.node = true) (hm : l.length = m) (hm2 : m ≤ 500) (ht : t < m) (hr : Bo.near N D l t = r) :
    Calls Try.prog 27 #[.agg #[.int .i64 N, .slice dA dm dc, .slice tA tm tc], .slice A m c, .int .i64 (t : Int)] w fun e w' => e = .returned (.int .i64 r) ∧ Hid (Below w.heap.size w w') := by
  have HB0 : Hid (Below w.heap.size w (((w.alloc (.cells #[.int .i64 N, .slice dA dm dc, .slice tA tm tc] 24)).alloc (.cells #[.slice A m c] 25)).alloc (.cells #[.int .i64 t] 3))) := below_more (below_more (below_alloc _ _) _) _
  have HX : Hid (NrB (((w.alloc (.cells #[.int .i64 N, .slice dA dm dc, .slice tA tm tc] 24)).alloc (.cells #[.slice A m c] 25)).alloc (.cells #[.int .i64 t] 3)) w.heap.size (w.heap.size + 1) (w.heap.size + 1 + 1) N dA dm dc D tA tm tc T A m c l (t : Int)) := by
    refine ⟨((Boxed.new h).below (below_alloc _ _)).below (below_alloc _ _), (box_at _ _ _ _ (by simp)).below (below_alloc _ _), box_at _ _ _ _ (by simp), hl.below HB0.out⟩
  have HM := Lib.hid hm
  have HN := Lib.hid hn
  have HOK := Lib.hid hok
  have HR := Lib.hid hr
  clear h hl hn hm hok hr
  have HG : Hid ((((w.alloc (.cells #[.int .i64 N, .slice dA dm dc, .slice tA tm tc] 24)).alloc (.cells #[.slice A m c] 25)).alloc (.cells #[.int .i64 t] 3)).heap.size = w.heap.size + 1 + 1 + 1) := by unfold Hid; simp
  go_enter Try.func27, Try.ntmps27
  have y0 := HX.out.o.cell 0 _ rfl
  have HX' : Hid (∀ o, NrB ((((w.alloc (.cells #[.int .i64 N, .slice dA dm dc, .slice tA tm tc] 24)).alloc (.cells #[.slice A m c] 25)).alloc (.cells #[.int .i64 t] 3)).alloc o) w.heap.size (w.heap.size + 1) (w.heap.size + 1 + 1) N dA dm dc D tA tm tc T A m c l (t : Int)) := fun o => HX.out.below (below_alloc _ _)
  have y1 := (HX'.out (.cells #[.int .i64 0] 3)).o.cell 0 _ rfl
  go_wp2_with fail
  clear y0 y1 HX'
  generalize ((w.alloc (.cells #[.int .i64 N, .slice dA dm dc, .slice tA tm tc] 24)).alloc (.cells #[.slice A m c] 25)).alloc (.cells #[.int .i64 t] 3) = V at *
  have HO0 : Hid (OwnI (V.alloc (.cells #[.int .i64 0] 3)) V.heap.size (.slice (some ⟨V.heap.size, 0, none⟩) 1 1) [0]) := own_one V _ 0 (Nat.le_refl _)
  have HV0 : Hid (Below V.heap.size V (V.alloc (.cells #[.int .i64 0] 3)) ∧ V.heap.size ≤ (V.alloc (.cells #[.int .i64 0] 3)).heap.size) := ⟨below_alloc _ _, (below_alloc V _).size⟩
  rw [HG.out] at HO0 HV0
  generalize V.alloc (.cells #[.int .i64 0] 3) = V1 at *
  generalize w.heap.size + 1 + 1 + 1 = g at *
  generalize w.heap.size + 1 + 1 = b3 at *
  generalize w.heap.size + 1 = b2 at *
  generalize hb1 : w.heap.size = b1 at HX ⊢
  clear hb1
  go_loopg [7, 13] m (fun gk s7 s13 W => ∃ (k n d : Nat) (B : Option Addr) (W0 : World), W0 = W ∧ k + gk = m ∧ s7 = .slice B n d ∧ s13 = .int .i64 k ∧ Hid (Below g V W0 ∧ g ≤ W0.heap.size) ∧ Hid (OwnI W0 g (.slice B n d) (Bo.frs (l.take k) t)))
  case atStart => exact ⟨0, 1, 1, _, _, rfl, by omega, rfl, rfl, HV0.out, HO0.out⟩
  case round =>
    obtain ⟨k, n, d, B, W0, rfl, hkg, rfl, rfl, HK, HO⟩ := hrel
    have HX0 : Hid (NrB W0 b1 b2 b3 N dA dm dc D tA tm tc T A m c l (t : Int)) := HX.out.below (by rw [HG.out]; exact HK.out.1)
    by_cases hlt : k < m
    · obtain ⟨gk, rfl⟩ : ∃ j, gk = j + 1 := ⟨gk - 1, by omega⟩
      obtain ⟨o, ho⟩ := mlist_at l k (by rw [HM.out]; exact hlt)
      obtain ⟨ad, hA, hc⟩ := HX0.out.os.at_ ho
      obtain ⟨c0, c1, c2, c3, c4, c5, c6, c7⟩ := hc
      obtain ⟨a0, a1, a2, a3, a4, a5, a6, a7⟩ := o
      simp only at c0 c1 c2 c3 c4 c5 c6 c7
      have i2 : (k : Int) < (m : Int) := by omega
      have HBX := Lib.hid (Box.new W0 #[.int .i64 a0, .int .i64 a1, .int .i64 a2, .int .i64 a3, .int .i64 a4, .int .i64 a5, .int .i64 a6, .int .i64 a7] 57)
      have HB3 : Hid (Below g V (W0.alloc (.cells #[.int .i64 a0, .int .i64 a1, .int .i64 a2, .int .i64 a3, .int .i64 a4, .int .i64 a5, .int .i64 a6, .int .i64 a7] 57)) ∧ g ≤ (W0.alloc (.cells #[.int .i64 a0, .int .i64 a1, .int .i64 a2, .int .i64 a3, .int .i64 a4, .int .i64 a5, .int .i64 a6, .int .i64 a7] 57)).heap.size) := ⟨Below.alloc HK.out.1 HK.out.2 _, Nat.le_trans HK.out.2 (below_alloc W0 _).size⟩
      have HX3 : Hid (NrB (W0.alloc (.cells #[.int .i64 a0, .int .i64 a1, .int .i64 a2, .int .i64 a3, .int .i64 a4, .int .i64 a5, .int .i64 a6, .int .i64 a7] 57)) b1 b2 b3 N dA dm dc D tA tm tc T A m c l (t : Int)) := HX0.out.below (below_alloc _ _)
      have HO3 := Lib.hid (HO.out.below (below_alloc W0 (.cells #[.int .i64 a0, .int .i64 a1, .int .i64 a2, .int .i64 a3, .int .i64 a4, .int .i64 a5, .int .i64 a6, .int .i64 a7] 57)))
      have z0 := HX3.out.t.cell 0 _ rfl
      have z2 := HBX.out.cell 2 _ rfl
      have HOK2 := Lib.hid ho
      have HA := Lib.hid hA
      clear ho hA
      obtain rfl := HA.out
      by_cases hkt : k = t
      · have e1 : ((k : Int) != (t : Int)) = false := by rw [hkt]; simp
        have e2 : (k != t) = false := by rw [hkt]; simp
        have HNX : Hid (Bo.frs (l.take (k + 1)) t = Bo.frs (l.take k) t) := by subst hkt; exact frs_same HOK2.out
        clear hkt
        go_wp2_with fail
        go_roundg gk
        case measure => omega
        case rel => exact ⟨k + 1, n, d, B, _, rfl, by omega, rfl, by first | rfl | go_num, HB3.out, by rw [HNX.out]; exact HO3.out⟩
      · have e1 : ((k : Int) != (t : Int)) = true := bne_iff_ne.2 (by omega)
        have e2 : (k != t) = true := bne_iff_ne.2 hkt
        obtain ⟨M, hM⟩ : ∃ M, (Bo.frs (l.take k) t ++ [a2]).length = M := ⟨_, rfl⟩
        have HNX : Hid (Bo.frs (l.take (k + 1)) t = Bo.frs (l.take k) t ++ [a2]) := frs_next HOK2.out hkt
        have hap := owni_put HO3.out HB3.out.2 a2 (by have := frs_len l k t; omega) M hM
        rw [← size_one W0] at hap
        have HAP := Lib.hid hap
        clear hap
        clear hkt hM
        go_wp2_with (at_builtin; refine wpList_append_any rfl (.tmp 21) (.tmp 24) 29 29 rfl _ _ rfl rfl _ HAP.out ?_; intro v2 w2 hap; obtain ⟨A2, c2, rfl, HP⟩ := hap)
        go_roundg gk
        case measure => omega
        case rel => exact ⟨k + 1, M, c2, A2, _, rfl, by omega, rfl, by first | rfl | go_num, ⟨HB3.out.1.trans HP.out.2, Nat.le_trans HB3.out.2 HP.out.2.size⟩, by rw [HNX.out]; exact HP.out.1⟩
    · have hk : k = m := by omega
      subst hk
      have HFR : Hid ((Bo.frs l t).length = n ∧ n ≤ d ∧ n ≤ 1000 ∧ IntsAt W0 B (Bo.frs l t)) := by
        have h1 := HO.out
        rw [frs_all (by rw [HM.out]; exact Nat.le_refl _)] at h1
        obtain ⟨A', c', e, h2, _, h3⟩ := h1.ints
        injection e with e1 e2 e3
        subst e1 e2 e3
        have := frs_len l k t
        rw [frs_all (by rw [HM.out]; exact Nat.le_refl _)] at this
        exact ⟨rfl, h2, by omega, h3⟩
      have hle := HFR.out.2.1
      have hn2 := HFR.out.2.2.1
      have HLR : Hid (Bo.lst ((Bo.frs l t).map fun s => (Ar.legS N D T s (Bo.nd l t)).1) = r) := by
        unfold Hid
        rw [← HR.out]
        unfold Bo.near
        congr 1
        refine List.map_congr_left fun s hs => ?_
        have ho := Ar.ok_of HOK.out
        obtain ⟨o, ho2⟩ := mlist_at l t (by rw [HM.out]; exact ht)
        rw [leg_is HOK.out (frs_in ho.has0 HN.out t s hs) (by rw [Bo.nd_at ho2]; exact HN.out o (List.mem_of_getElem? ho2))]
      have HC := Lib.hid (least_i (fun s => (Ar.legS N D T s (Bo.nd l t)).1) ⟨b1, 0, none⟩ ⟨b2, 0, none⟩ ⟨b3, 0, none⟩ B n d (Bo.frs l t) W0 r HLR.out HFR.out.1 hn2 hle HFR.out.2.2.2
        (fun s hs W hW => nearest1_b N dA dm dc D tA tm tc T A k c l t b1 b2 b3 s _ W (HX0.out.below hW) HM.out (by omega) ht rfl))
      go_wp2_with fail
      with_reducible refine HC.out.mono ?_
      rintro e w2 ⟨rfl, hb2⟩
      go_wp2
      go_ret
      exact ⟨rfl, below_next (below_next HB0.out (by rw [HG.out]; exact HK.out.1)) hb2.out⟩
end Go.Proofs.Ytbacakblboodeaa
