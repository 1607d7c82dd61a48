/- Contracts of package log: ContainsFunc; the log's struct; Records, Generation, Left. -/
import Derived.Test.YtoocifoglhhnmaaLogRows
namespace Go.Proofs.Ytoocifoglhhnmaa
open Go.RowKit
set_option linter.unusedVariables false

def bigB (rs : List Dk.Bs) : Bool := rs.any (fun r => decide (200 < r.length))
theorem bigB_false {rs : List Dk.Bs} (h : bigB rs = false) : ∀ r ∈ rs, r.length ≤ 200 := by
  intro r hr
  unfold bigB at h
  rw [List.any_eq_false] at h
  have := h r hr
  simpa using this
theorem bigB_of {rs : List Dk.Bs} {r : Dk.Bs} (hr : r ∈ rs) (h : 200 < r.length) : bigB rs = true := by
  unfold bigB; rw [List.any_eq_true]; exact ⟨r, hr, by simpa using h⟩
theorem bigB_not {rs : List Dk.Bs} (h : ∀ (k : Nat) (r : Dk.Bs), rs[k]? = some r → r.length ≤ 200) : bigB rs = false := by
  unfold bigB; rw [List.any_eq_false]
  intro r hr
  obtain ⟨k, hk⟩ := List.getElem?_of_mem hr
  have := h k r hk
  simpa using this

set_option maxHeartbeats 400000 in
theorem only1_any (B : Option Addr) (m c : Nat) (w : World) (hm : m ≤ maxLen) :
    Calls Try.prog 49 #[.slice B m c] w fun e w' => e = .returned (.bool (decide (200 < m))) ∧ w = w' := by
  unfold maxLen at hm
  go_enter Try.func49, Try.ntmps49
  go_wp2
  go_ret
  refine ⟨congrArg Ending.returned (congrArg Value.bool ?_), rfl⟩
  show decide ((200 : Int) < (m : Int)) = decide (200 < m)
  by_cases h : 200 < m
  · rw [decide_eq_true h, decide_eq_true (by omega)]
  · rw [decide_eq_false h, decide_eq_false (by omega)]

set_option maxHeartbeats 1000000 in
set_option maxRecDepth 100000 in
theorem indexFunc_any (F : Nat → Prop) (A : Option Addr) (m c : Nat) (rs : List Dk.Bs) (w : World) (hm : rs.length = m) (hm2 : m ≤ 100000) (hb : RowIn F w A rs) :
    Calls Try.prog 70 #[.slice A m c, .func (.func 49) #[] #[]] w fun e w' => ∃ z : Int, e = .returned (.int .i64 z) ∧ w = w' ∧ (decide (0 ≤ z) = bigB rs) := by
  have HB := Lib.hid hb
  have HM := Lib.hid hm
  have HN : Hid ((∀ k : Nat, k < m → ∀ r, rs[k]? = some r → r.length ≤ 200) → bigB rs = false) := fun h => bigB_not (fun k r hr => h k (by rw [← hm]; exact (List.getElem?_eq_some_iff.1 hr).1) r hr)
  have HY : Hid (∀ (k : Nat) (r : Dk.Bs), rs[k]? = some r → 200 < r.length → bigB rs = true) := fun k r hr h => bigB_of (List.mem_of_getElem? hr) h
  clear hb hm
  generalize bigB rs = R at *
  go_enter Try.func70, Try.ntmps70
  go_wp2
  go_loopg [8] m (fun gk s8 W => ∃ (k : Nat), k + gk = m ∧ s8 = .int .i64 k ∧ W = w ∧ Hid (∀ i : Nat, i < k → ∀ r, rs[i]? = some r → r.length ≤ 200))
  case atStart => exact ⟨0, by omega, rfl, rfl, fun i hi => by omega⟩
  case round =>
    obtain ⟨k, hkg, rfl, rfl, HK⟩ := hrel
    cases gk with
    | zero =>
      obtain rfl : k = m := by omega
      have HE := Lib.hid (HN.out HK.out)
      go_wp2
      go_ret
      exact ⟨_, rfl, rfl, by rw [HE.out]; rfl⟩
    | succ q =>
      obtain ⟨b, hb⟩ := some_at rs k (by rw [HM.out]; omega)
      obtain ⟨ad, v, rfl, _, _, hc, B, cc, rfl, hcc, hcm, hby⟩ := HB.out k b hb
      have HO := only1_any B b.length cc wr (by omega)
      by_cases h200 : 200 < b.length
      · rw [decide_eq_true h200] at HO
        have HO := Lib.hid HO
        have HE := Lib.hid (HY.out k b hb h200)
        clear hb hby
        go_wp2_with (go_at_call 49; refine HO.out.mono ?_; rintro e w' ⟨rfl, rfl⟩)
        go_ret
        exact ⟨_, rfl, rfl, by rw [HE.out]; exact decide_eq_true (by omega)⟩
      · rw [decide_eq_false h200] at HO
        have HO := Lib.hid HO
        have HK2 : Hid (∀ i : Nat, i < k + 1 → ∀ r, rs[i]? = some r → r.length ≤ 200) := fun i hi r hr => by
          by_cases e : i < k
          · exact HK.out i e r hr
          · obtain rfl : i = k := by omega
            rw [hb] at hr
            obtain rfl := Option.some.inj hr
            omega
        clear hb hby h200
        go_wp2_with (go_at_call 49; refine HO.out.mono ?_; rintro e w' ⟨rfl, rfl⟩)
        go_roundg q
        case measure => omega
        case rel => exact ⟨k + 1, by omega, by first | rfl | go_num, rfl, HK2.out⟩

set_option maxHeartbeats 1000000 in
set_option maxRecDepth 100000 in
theorem contains_any (F : Nat → Prop) (A : Option Addr) (m c : Nat) (rs : List Dk.Bs) (w : World) (hm : rs.length = m) (hm2 : m ≤ 100000) (hb : RowIn F w A rs) :
    Calls Try.prog 48 #[.slice A m c, .func (.func 49) #[] #[]] w fun e w' => e = .returned (.bool (bigB rs)) ∧ w = w' := by
  have HI := Lib.hid (indexFunc_any F A m c rs w hm hm2 hb)
  clear hm hb
  generalize bigB rs = R at *
  go_enter Try.func48, Try.ntmps48
  go_wp2_with (go_at_call 70; refine HI.out.mono ?_; rintro e w' ⟨z, rfl, rfl, hz⟩; have HZ := Lib.hid hz; clear hz)
  go_ret
  exact ⟨by rw [← HZ.out]; rfl, rfl⟩

/-- the log's struct -/
def logCells (g n : Nat) (x : Lg.L) (v : Value) : Array Value :=
  #[.pointer (some ⟨g, 0, none⟩), .int .i64 (Lg.start n x.half : Nat), .int .i64 (n / 2 : Nat), .pointer (some ⟨g, 0, none⟩), .int .i64 (Lg.start n (1 - x.half) : Nat), .int .i64 (n / 2 : Nat), .int .i64 (x.gen : Nat), v, .int .i64 (x.fin : Nat), .bool x.bro]
structure LogIn (W : World) (base : Nat) (F : Nat → Prop) (lb : Nat) (v : Value) (g n : Nat) (x : Lg.L) : Prop where
  top : W.heap[lb]? = some (.cells (logCells g n x v) 67 (0, 0))
  rows : RowsAt W base F v x.recs
  good : Lg.LGood n x
  fl : F lb
  ne : ∀ i, v.ownBlock = some i → i ≠ lb

theorem LogIn.lt {W : World} {base lb g n : Nat} {F : Nat → Prop} {v : Value} {x : Lg.L} (h : LogIn W base F lb v g n x) : lb < W.heap.size := (Array.getElem?_eq_some_iff.1 h.top).1
theorem LogIn.cell {W : World} {base lb g n : Nat} {F : Nat → Prop} {v : Value} {x : Lg.L} (h : LogIn W base F lb v g n x) (k : Nat) (u : Value) (hu : (logCells g n x v)[k]? = some u) : W.cell? ⟨lb, k, none⟩ = some u := by rw [cell_of_row W lb k _ _ _ h.top]; exact hu
theorem LogIn.c0 {W : World} {base lb g n : Nat} {F : Nat → Prop} {v : Value} {x : Lg.L} (h : LogIn W base F lb v g n x) : W.cell? ⟨lb, 0, none⟩ = some (.pointer (some ⟨g, 0, none⟩)) := h.cell 0 (.pointer (some ⟨g, 0, none⟩)) rfl
theorem LogIn.c1 {W : World} {base lb g n : Nat} {F : Nat → Prop} {v : Value} {x : Lg.L} (h : LogIn W base F lb v g n x) : W.cell? ⟨lb, 1, none⟩ = some (.int .i64 (Lg.start n x.half : Nat)) := h.cell 1 (.int .i64 (Lg.start n x.half : Nat)) rfl
theorem LogIn.c2 {W : World} {base lb g n : Nat} {F : Nat → Prop} {v : Value} {x : Lg.L} (h : LogIn W base F lb v g n x) : W.cell? ⟨lb, 2, none⟩ = some (.int .i64 (n / 2 : Nat)) := h.cell 2 (.int .i64 (n / 2 : Nat)) rfl
theorem LogIn.c3 {W : World} {base lb g n : Nat} {F : Nat → Prop} {v : Value} {x : Lg.L} (h : LogIn W base F lb v g n x) : W.cell? ⟨lb, 3, none⟩ = some (.pointer (some ⟨g, 0, none⟩)) := h.cell 3 (.pointer (some ⟨g, 0, none⟩)) rfl
theorem LogIn.c4 {W : World} {base lb g n : Nat} {F : Nat → Prop} {v : Value} {x : Lg.L} (h : LogIn W base F lb v g n x) : W.cell? ⟨lb, 4, none⟩ = some (.int .i64 (Lg.start n (1 - x.half) : Nat)) := h.cell 4 (.int .i64 (Lg.start n (1 - x.half) : Nat)) rfl
theorem LogIn.c5 {W : World} {base lb g n : Nat} {F : Nat → Prop} {v : Value} {x : Lg.L} (h : LogIn W base F lb v g n x) : W.cell? ⟨lb, 5, none⟩ = some (.int .i64 (n / 2 : Nat)) := h.cell 5 (.int .i64 (n / 2 : Nat)) rfl
theorem LogIn.c6 {W : World} {base lb g n : Nat} {F : Nat → Prop} {v : Value} {x : Lg.L} (h : LogIn W base F lb v g n x) : W.cell? ⟨lb, 6, none⟩ = some (.int .i64 (x.gen : Nat)) := h.cell 6 (.int .i64 (x.gen : Nat)) rfl
theorem LogIn.c7 {W : World} {base lb g n : Nat} {F : Nat → Prop} {v : Value} {x : Lg.L} (h : LogIn W base F lb v g n x) : W.cell? ⟨lb, 7, none⟩ = some (v) := h.cell 7 (v) rfl
theorem LogIn.c8 {W : World} {base lb g n : Nat} {F : Nat → Prop} {v : Value} {x : Lg.L} (h : LogIn W base F lb v g n x) : W.cell? ⟨lb, 8, none⟩ = some (.int .i64 (x.fin : Nat)) := h.cell 8 (.int .i64 (x.fin : Nat)) rfl
theorem LogIn.c9 {W : World} {base lb g n : Nat} {F : Nat → Prop} {v : Value} {x : Lg.L} (h : LogIn W base F lb v g n x) : W.cell? ⟨lb, 9, none⟩ = some (.bool x.bro) := h.cell 9 (.bool x.bro) rfl
theorem LogIn.fz {W : World} {base lb g n : Nat} {F : Nat → Prop} {v : Value} {x : Lg.L} (h : LogIn W base F lb v g n x) (k : Nat) : W.frozen? ⟨lb, k, none⟩ = false := by unfold World.frozen?; rw [h.top]; simp
/-- it stays, where what turns is none of its own -/
theorem LogIn.keep {G F : Nat → Prop} {W W' : World} {base lb g n : Nat} {v : Value} {x : Lg.L} (h : LogIn W base F lb v g n x) (hk : Kept G W W') (h1 : ∀ i, i < W.heap.size → G i → F i) (h2 : ∀ i, v.ownBlock = some i → ¬ G i) (h3 : ¬ G lb) : LogIn W' base F lb v g n x :=
  ⟨(hk.block lb h.lt h3).trans h.top, h.rows.keep hk h1 h2, h.good, h.fl, h.ne⟩
theorem LogIn.below {F : Nat → Prop} {W W' : World} {base lb g n : Nat} {v : Value} {x : Lg.L} (h : LogIn W base F lb v g n x) (hb : Below W.heap.size W W') : LogIn W' base F lb v g n x :=
  h.keep (G := No) (Kept.of_below hb) (fun _ _ => False.elim) (fun _ _ => id) id

set_option maxHeartbeats 400000 in
theorem gen_any (W : World) (base lb g n : Nat) (F : Nat → Prop) (v : Value) (x : Lg.L) (h : LogIn W base F lb v g n x) :
    Calls Try.prog 27 #[.pointer (some ⟨lb, 0, none⟩)] W fun e w' => e = .returned (.int .i64 (x.gen : Nat)) ∧ W = w' := by
  have c6 := h.c6
  clear h
  go_enter Try.func27, Try.ntmps27
  go_wp2
  go_ret
  exact ⟨rfl, rfl⟩

set_option maxHeartbeats 400000 in
theorem left_any (W : World) (base lb g n : Nat) (F : Nat → Prop) (v : Value) (x : Lg.L) (h : LogIn W base F lb v g n x) (hn : n ≤ 4096) :
    Calls Try.prog 26 #[.pointer (some ⟨lb, 0, none⟩)] W fun e w' => e = .returned (.int .i64 (n / 2 - x.fin : Nat)) ∧ ∃ q, w' = W.drewN q := by
  have c2 := h.c2
  have c8 := h.c8
  have hfin := h.good.fin
  clear h
  have HE : Hid ((((n / 2 : Nat) : Int) - (x.fin : Int)) = ((n / 2 - x.fin : Nat) : Int)) := by unfold Hid; omega
  have hw : IntKind.i64.wrap (((n / 2 : Nat) : Int) - (x.fin : Int)) = ((n / 2 : Nat) : Int) - (x.fin : Int) := by rw [IntKind.wrap_i64]; omega
  generalize n / 2 - x.fin = q at *
  generalize n / 2 = h2 at *
  generalize x.fin = f at *
  go_enter Try.func26, Try.ntmps26
  go_wp2
  go_quiet (fail)
  go_wp2
  go_ret
  exact ⟨congrArg _ (int_eq HE.out), _, rfl⟩

set_option maxHeartbeats 400000 in
theorem records_any (W : World) (base lb g n : Nat) (F : Nat → Prop) (v : Value) (x : Lg.L) (h : LogIn W base F lb v g n x) (hn : n ≤ 4096) :
    Calls Try.prog 25 #[.pointer (some ⟨lb, 0, none⟩)] W fun e w' => ∃ u, e = .returned u ∧ Fresh W u x.recs w' := by
  have c7 := h.c7
  obtain ⟨A, c, e, h1, h2, h3⟩ := h.rows.slice
  have hcnt := h.good.cnt
  have hfin := h.good.fin
  have HC := Lib.hid (copyOf_any A x.recs.length c x.recs W rfl (by omega) (fun r hr => Nat.le_trans (h.good.len r hr) (by omega)) (h3 No (fun _ _ => False.elim) (fun _ _ => id)))
  rw [e] at c7
  clear h h3 e
  go_enter Try.func25, Try.ntmps25
  go_wp2_with (go_at_call 52; refine HC.out.mono ?_; rintro e w1 ⟨u, rfl, hf⟩)
  go_ret
  exact ⟨_, rfl, hf⟩

end Go.Proofs.Ytoocifoglhhnmaa
