/- Contracts of package better: slices.Reverse of a part of a row of one's own; whether a truck has a route; routes of which one has other stops. -/
import Derived.Test.YtgjmlnpfkmpfgaaGreatBetShs
import Derived.Test.YtgjmlnpfkmpfgaaGreatPlanRow
import Derived.Test.YtgjmlnpfkmpfgaaGreatMaths
namespace Go.Proofs.YtgjmlnpfkmpfgaaGreat
open Go.RowKit Go.Shelf Go.Sort
set_option linter.unusedVariables false
set_option maxRecDepth 100000

theorem row_put_at {W : World} {g : Nat} {cs : Array Value} {T : TypeId} (h : Box W g cs T) (m o : Nat) (d : Array Int) :
    Box (putRow (Value.int .i64) (Sort.ahead W m) g o d) g (putCells (Value.int .i64) o d cs) T := by
  unfold Box
  show (W.heap.modify g _)[g]? = _
  rw [Array.getElem?_modify, if_pos rfl, show W.heap[g]? = _ from h]
  rfl
theorem rev_at {l : List Int} {i j : Nat} (hij : i ≤ j) (hj : j < l.length) (k : Nat) : (Bt.rev l i j)[k]? = if i ≤ k ∧ k < j + 1 then l[i + j - k]? else l[k]? := by
  unfold Bt.rev
  have e1 : (l.take i).length = i := List.length_take_of_le (by omega)
  have e2 : ((l.drop i).take (j + 1 - i)).length = j + 1 - i := by rw [List.length_take, List.length_drop]; omega
  rw [List.append_assoc]
  by_cases h1 : k < i
  · rw [List.getElem?_append_left (by omega), List.getElem?_take_of_lt h1, if_neg (by omega)]
  · rw [List.getElem?_append_right (by omega), e1]
    by_cases h2 : k < j + 1
    · rw [if_pos ⟨by omega, h2⟩, List.getElem?_append_left (by rw [List.length_reverse]; omega), List.getElem?_reverse (by omega), e2, List.getElem?_take_of_lt (by omega), List.getElem?_drop]
      congr 1
      omega
    · rw [if_neg (by omega), List.getElem?_append_right (by rw [List.length_reverse]; omega), List.length_reverse, e2, List.getElem?_drop]
      congr 1
      omega

/-- slices.Reverse of a part of a row of one's own -/
theorem reverse_b (g n c i j cc : Nat) (l : List Int) (W : World) (base : Nat) (hn : l.length = n) (hn2 : n ≤ 100000) (hij : i ≤ j) (hj : j < n) (h : OwnI W base (.slice (some ⟨g, 0, none⟩) n c) l) :
    Calls Tryz.prog 75 #[.slice (some ⟨g, i, none⟩) (j + 1 - i) cc] W fun e w' => e = .returned (.tuple #[]) ∧ Hid (OwnI w' base (.slice (some ⟨g, 0, none⟩) n c) (Bt.rev l i j) ∧ Below base W w') := by
  have h' := h
  rcases h.2 with ⟨e, _⟩ | ⟨g', cap, cur, e, hbg, hg, hnc, hcm, hcs, hct⟩
  · cases e
  injection e with e1 e2 e3
  injection e1 with e1
  injection e1 with e1
  subst e1 e3
  have hbox : Box W g cur 3 := hg
  have hcells : ∀ (k : Nat) (z : Int), l[k]? = some z → W.cell? ⟨g, k, none⟩ = some (.int .i64 z) := fun k z hz => by
    have := h'.cells (g := g) rfl k (.int .i64 z) (by rw [List.getElem?_map, hz]; rfl)
    rw [add_flat, Nat.zero_add] at this
    exact this
  have hzl : ((l.drop i).take (j + 1 - i)).length = j + 1 - i := by rw [List.length_take, List.length_drop]; omega
  have hH : Holds (Value.int .i64) W g i ((l.drop i).take (j + 1 - i)).toArray := fun k hk => by
    have hk' : k < j + 1 - i := by rw [List.size_toArray, hzl] at hk; exact hk
    refine ⟨?_, hbox.fz _⟩
    rw [getElem!_pos _ k hk]
    refine hcells (i + k) _ ?_
    simp only [List.getElem_toArray, List.getElem_take, List.getElem_drop]
    exact List.getElem?_eq_getElem (by omega)
  have hcon := Any.slices_Reverse_int Tryz.laysRev g i cc ((l.drop i).take (j + 1 - i)) W hH (by omega)
  rw [hzl] at hcon
  refine Calls.mono hcon ?_
  rintro e w' ⟨rfl, m, rfl⟩
  have hb2 := row_put_at hbox m i ((l.drop i).take (j + 1 - i)).reverse.toArray
  have hrl : (Bt.rev l i j).length = n := by
    unfold Bt.rev
    simp only [List.length_append, List.length_take, List.length_reverse, List.length_drop]
    omega
  have := own_cells (l := Bt.rev l i j) (base := base) (c := c) hb2 hbg (by simp [putCells]; omega) (by omega) hcm (fun k z hz => by
    refine hb2.cell k _ ?_
    rw [rev_at hij (by omega)] at hz
    have hk : k < n := by
      by_cases h1 : i ≤ k ∧ k < j + 1
      · omega
      · rw [if_neg h1] at hz
        have := (List.getElem?_eq_some_iff.1 hz).1
        omega
    have hsz : ((l.drop i).take (j + 1 - i)).reverse.toArray.size = j + 1 - i := by simp only [List.size_toArray, List.length_reverse]; exact hzl
    unfold putCells
    rw [Array.getElem?_mapIdx, Array.getElem?_eq_getElem (by omega)]
    simp only [Option.map_some]
    by_cases h1 : i ≤ k ∧ k < j + 1
    · rw [if_pos ⟨h1.1, by omega⟩]
      rw [if_pos h1] at hz
      congr 2
      rw [getElem!_pos _ (k - i) (by omega)]
      have e : ((l.drop i).take (j + 1 - i)).reverse[k - i]? = some z := by
        rw [List.getElem?_reverse (by omega), hzl, List.getElem?_take_of_lt (by omega), List.getElem?_drop, ← hz]
        congr 1
        omega
      simp only [List.getElem_toArray]
      exact (List.getElem?_eq_some_iff.1 e).2
    · rw [if_neg (by omega)]
      rw [if_neg h1] at hz
      have := hcells k z hz
      rw [cell_of_row W g k _ _ _ hg] at this
      have h2 : k < cur.size := by omega
      simpa [h2] using this)
  rw [hrl] at this
  exact ⟨rfl, this, ⟨rfl, rfl, rfl, by rw [size_putRow]; exact Nat.le_refl _, fun k hk => by
    show (W.heap.modify g _)[k]? = _
    rw [Array.getElem?_modify, if_neg (by omega)]⟩⟩

theorem ros_set {l : List Rd} {k : Nat} {r : Rd} (h : l[k]? = some r) (A : Option Addr) (m c : Nat) (st : List Int) : ros (l.set k ⟨r.tr, A, m, c, st⟩) = Bt.setSt (ros l) k st := by
  rw [Bt.setSt_at (ros_at h)]
  unfold ros
  rw [List.map_set]; rfl

set_option maxHeartbeats 2000000 in
theorem runs1_b (r : Rd) (t : Int) (q : Addr) (w : World) (hq : w.cell? q = some (.int .i64 t)) (b : Bool) (hb : (r.tr == t) = b) :
    Calls Tryz.prog 116 #[.agg #[.int .i64 r.tr, .slice r.sA r.sm r.sc], .pointer (some q)] w fun e w' => e = .returned (.bool b) ∧ Hid (Below w.heap.size w w') := by
  have HB0 : Hid (Below w.heap.size w (w.alloc (.cells #[.int .i64 r.tr, .slice r.sA r.sm r.sc] 49))) := below_alloc _ _
  have x0 := (Box.new w #[.int .i64 r.tr, .slice r.sA r.sm r.sc] 49).cell 0 _ rfl
  have x1 : (w.alloc (.cells #[.int .i64 r.tr, .slice r.sA r.sm r.sc] 49)).cell? q = some (.int .i64 t) := by rw [HB0.out.cell (lt_of_cell hq)]; exact hq
  go_enter Tryz.func116, Tryz.ntmps116
  go_wp2
  go_ret
  exact ⟨rfl, HB0.out⟩

set_option maxHeartbeats 2000000 in
theorem index_r (A : Option Addr) (m c : Nat) (l : List Rd) (t : Int) (q : Addr) (w : World) (hm : l.length = m) (hm2 : m ≤ 1000) (hl : RowsR w A l) (hq : w.cell? q = some (.int .i64 t)) :
    Calls Tryz.prog 140 #[.slice A m c, .func (.func 116) #[] #[.pointer (some q)]] w fun e w' => ∃ z : Int, e = .returned (.int .i64 z) ∧ decide ((0 : Int) ≤ z) = (Pl.trs (ros l)).contains t ∧ Hid (Below w.heap.size w w') := by
  have HL := Lib.hid hl
  have HM := Lib.hid hm
  have HQ := Lib.hid hq
  have HY : Hid (∀ k : Nat, m ≤ k → (∀ (i : Nat) (r : Rd), i < k → l[i]? = some r → r.tr ≠ t) → decide ((0 : Int) ≤ -1) = (Pl.trs (ros l)).contains t) := fun k hk h => by
    have : (Pl.trs (ros l)).contains t = false := by
      rw [← Bool.not_eq_true, List.contains_iff_mem]
      intro hmem
      unfold Pl.trs ros at hmem
      rw [List.map_map] at hmem
      obtain ⟨r, hr, e⟩ := List.mem_map.1 hmem
      obtain ⟨i, hi⟩ := List.getElem?_of_mem hr
      exact h i r (by have := (List.getElem?_eq_some_iff.1 hi).1; omega) hi e
    rw [this]; rfl
  have HN : Hid (∀ (k : Nat) (r : Rd), l[k]? = some r → r.tr = t → decide ((0 : Int) ≤ (k : Int)) = (Pl.trs (ros l)).contains t) := fun k r h1 h2 => by
    have : (Pl.trs (ros l)).contains t = true := by
      rw [List.contains_iff_mem]
      unfold Pl.trs ros
      rw [List.map_map]
      exact List.mem_map.2 ⟨r, List.mem_of_getElem? h1, h2⟩
    rw [this]
    exact decide_eq_true (by omega)
  clear hl hm hq
  generalize (Pl.trs (ros l)).contains t = b at *
  go_enter Tryz.func140, Tryz.ntmps140
  go_wp2_with fail
  go_loopg [4, 8] m (fun gk s4 s8 W => ∃ (k : Nat), k + gk = m ∧ s4 = .int .i64 0 ∧ s8 = .int .i64 k ∧ Hid (Below w.heap.size w W) ∧ Hid (∀ (i : Nat) (r : Rd), i < k → l[i]? = some r → r.tr ≠ t))
  case atStart => exact ⟨0, by omega, rfl, rfl, Below.refl _ _, fun i r hi => by omega⟩
  case round =>
    obtain ⟨k, hkg, rfl, rfl, HB, HK⟩ := hrel
    by_cases hlt : k < m
    · obtain ⟨gk, rfl⟩ : ∃ j, gk = j + 1 := ⟨gk - 1, by omega⟩
      obtain ⟨r, hr⟩ := mlist_at l k (by rw [HM.out]; exact hlt)
      obtain ⟨ad, rfl, hc⟩ := (HL.out.below HB.out) k r hr
      obtain ⟨c0, c1⟩ := hc
      by_cases h1 : r.tr = t
      · have HR := Lib.hid (HN.out k r hr h1)
        have HC : Hid (∀ W, Below w.heap.size w W → Calls Tryz.prog 116 #[.agg #[.int .i64 r.tr, .slice r.sA r.sm r.sc], .pointer (some q)] W fun e w' => e = .returned (.bool true) ∧ Hid (Below w.heap.size w w')) := fun W hb =>
          (runs1_b r t q W (by rw [hb.cell (lt_of_cell HQ.out)]; exact HQ.out) true (beq_iff_eq.2 h1)).mono fun _ _ ⟨e1, e2⟩ => ⟨e1, below_next hb e2.out⟩
        clear hr h1
        go_wp2_with (go_at_call 116; refine (HC.out _ HB.out).mono ?_; rintro e w2 ⟨rfl, hb2⟩)
        go_ret
        exact ⟨_, rfl, HR.out, hb2.out⟩
      · have HC : Hid (∀ W, Below w.heap.size w W → Calls Tryz.prog 116 #[.agg #[.int .i64 r.tr, .slice r.sA r.sm r.sc], .pointer (some q)] W fun e w' => e = .returned (.bool false) ∧ Hid (Below w.heap.size w w')) := fun W hb =>
          (runs1_b r t q W (by rw [hb.cell (lt_of_cell HQ.out)]; exact HQ.out) false (beq_eq_false_iff_ne.2 h1)).mono fun _ _ ⟨e1, e2⟩ => ⟨e1, below_next hb e2.out⟩
        have HK2 : Hid (∀ (i : Nat) (r : Rd), i < k + 1 → l[i]? = some r → r.tr ≠ t) := fun i r' hi hr' => by
          by_cases h : i < k
          · exact HK.out i r' h hr'
          · obtain rfl : i = k := by omega
            rw [hr] at hr'
            obtain rfl := Option.some.inj hr'
            exact h1
        clear hr h1
        go_wp2_with (go_at_call 116; refine (HC.out _ HB.out).mono ?_; rintro e w2 ⟨rfl, hb2⟩)
        go_roundg gk
        case measure => omega
        case rel => exact ⟨k + 1, by omega, rfl, by first | rfl | go_num, hb2.out, HK2.out⟩
    · have HR := Lib.hid (HY.out k (by omega) HK.out)
      have hk : k = m := by omega
      subst hk
      go_wp2
      go_ret
      exact ⟨_, rfl, HR.out, HB.out⟩

set_option maxHeartbeats 1000000 in
theorem runs_b (p : Pd) (t : Int) (w : World) (b : Bool) (hb : (Pl.trs (ros p.rs)).contains t = b) (hl : p.rs.length = p.rm) (hm2 : p.rm ≤ 1000) (hr : RowsR w p.rA p.rs) :
    Calls Tryz.prog 70 #[.agg #[.slice p.rA p.rm p.rc, .slice p.uA p.um p.uc], .int .i64 t] w fun e w' => e = .returned (.bool b) ∧ Hid (Below w.heap.size w w') := by
  have HB0 : Hid (Below w.heap.size w ((w.alloc (.cells #[.slice p.rA p.rm p.rc, .slice p.uA p.um p.uc] 32)).alloc (.cells #[.int .i64 t] 3))) := below_more (below_alloc _ _) _
  have hx : Box ((w.alloc (.cells #[.slice p.rA p.rm p.rc, .slice p.uA p.um p.uc] 32)).alloc (.cells #[.int .i64 t] 3)) w.heap.size #[.slice p.rA p.rm p.rc, .slice p.uA p.um p.uc] 32 := (Box.new w _ _).below (below_alloc _ _)
  have y0 := hx.cell 0 _ rfl
  have hq : ((w.alloc (.cells #[.slice p.rA p.rm p.rc, .slice p.uA p.um p.uc] 32)).alloc (.cells #[.int .i64 t] 3)).cell? ⟨w.heap.size + 1, 0, none⟩ = some (.int .i64 t) := by
    rw [size_one w (.cells #[.slice p.rA p.rm p.rc, .slice p.uA p.um p.uc] 32)]
    exact (Box.new (w.alloc (.cells #[.slice p.rA p.rm p.rc, .slice p.uA p.um p.uc] 32)) _ _).cell 0 _ rfl
  have HC := Lib.hid (index_r p.rA p.rm p.rc p.rs t ⟨w.heap.size + 1, 0, none⟩ _ hl hm2 (hr.below HB0.out) hq)
  rw [hb] at HC
  clear hb
  have HCC : Hid (Calls Tryz.prog 115 #[.slice p.rA p.rm p.rc, .func (.func 116) #[] #[.pointer (some ⟨w.heap.size + 1, 0, none⟩)]] ((w.alloc (.cells #[.slice p.rA p.rm p.rc, .slice p.uA p.um p.uc] 32)).alloc (.cells #[.int .i64 t] 3)) fun e w' => e = .returned (.bool b) ∧ Hid (Below w.heap.size w w')) := by
    clear hx y0 hq hl hr
    generalize (w.alloc (.cells #[.slice p.rA p.rm p.rc, .slice p.uA p.um p.uc] 32)).alloc (.cells #[.int .i64 t] 3) = W at *
    unfold Hid
    go_enter Tryz.func115, Tryz.ntmps115
    go_wp2_with (go_at_call 140; refine HC.out.mono ?_; rintro e w2 ⟨z, rfl, hz, hb2⟩)
    go_ret
    exact ⟨by rw [← hz]; first | rfl | simp, below_next HB0.out hb2.out⟩
  clear HC hx hq hl hr HB0
  go_enter Tryz.func70, Tryz.ntmps70
  go_wp2_with (go_at_call 115; refine HCC.out.mono ?_; rintro e w2 ⟨rfl, hb2⟩)
  go_ret
  exact ⟨rfl, hb2⟩

set_option maxHeartbeats 2000000 in
theorem changed_b (A : Option Addr) (m c k : Nat) (l : List Rd) (r : Rd) (sA : Option Addr) (sm sc : Nat) (st : List Int) (w : World) (hm : l.length = m) (hm2 : m ≤ 1000) (hl : RowsR w A l) (hr : l[k]? = some r) :
    Calls Tryz.prog 73 #[.slice A m c, .int .i64 (k : Int), .slice sA sm sc] w fun e w' => ∃ A' c', e = .returned (.slice A' m c') ∧ Hid (OwnQ w' w.heap.size (.slice A' m c') (l.set k ⟨r.tr, sA, sm, sc, st⟩) ∧ Below w.heap.size w w') := by
  have HC := Lib.hid (clone_r A m c l w hm (by omega) hl)
  have i2 : (k : Int) < (m : Int) := by have := (List.getElem?_eq_some_iff.1 hr).1; omega
  have HR := Lib.hid hr
  clear hm hl hr
  go_enter Tryz.func73, Tryz.ntmps73
  go_wp2_with fail
  with_reducible refine HC.out.mono ?_
  rintro e w1 ⟨qA, qc, rfl, h1⟩
  clear HC
  obtain ⟨ad, rfl, hc⟩ := h1.out.1.len.2.2.1 k r HR.out
  obtain ⟨⟨G, go, gs⟩, hqd⟩ : ∃ x : Addr, x = ad := ⟨ad, rfl⟩
  subst hqd
  obtain ⟨hG1, hG2, hG3, hG4⟩ := h1.out.1.len.2.2.2 _ rfl
  simp only at hG1 hG2 hG3 hG4
  subst hG3 hG4
  obtain ⟨_, z0⟩ := hc
  rw [add_two, add_flat, Nat.zero_add] at z0
  have z1 := h1.out.1.fz (k * 2 + 1)
  have HQ := Lib.hid (h1.out.1.set HR.out sA sm sc st)
  have HB := Lib.hid (h1.out.2.setCell (p := ⟨G, k * 2 + 1, none⟩) hG1 (.slice sA sm sc))
  clear h1 hG1 hG2
  go_wp2
  go_ret
  exact ⟨_, _, rfl, HQ.out, HB.out⟩
end Go.Proofs.YtgjmlnpfkmpfgaaGreat
