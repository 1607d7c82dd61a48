/- Contracts of package load: Sum, Carries, Find. -/
import Derived.Test.YtbacakblboodeaaLoadD
import Derived.Lib.AppendZerosOnto
namespace Go.Proofs.Ytbacakblboodeaa
open Go.RowKit
set_option linter.unusedVariables false

theorem info_parts4 {i : Option TypeInfo} {z : Value} {s b : Nat} (h : i.map (fun i => (i.zero, i.size, i.bytes)) = some (some z, s, b)) : ∃ j, i = some j ∧ j.zero = some z ∧ j.size = s ∧ j.bytes = b := by
  cases i with
  | none => simp at h
  | some j => simp at h; exact ⟨j, rfl, h.1, h.2.1, h.2.2⟩
theorem int64_info : (Try.prog.info? 2).map (fun i => (i.zero, i.size, i.bytes)) = some (some (.int .i64 0), 1, 8) := by kernel_rfl
theorem made_nums (z : Array Value) (h0 : 0 < z.size) (h : ∀ i, i < z.size → z[i]! = .int .i64 0) (n : Nat) : madeCells z n = ((List.replicate n (0 : Int)).map (Value.int .i64)).toArray := by
  apply Array.ext
  · simp [size_madeCells]
  · intro i h1 h2
    have : (madeCells z n)[i] = z[i % z.size]! := by simp [madeCells]
    rw [this, h _ (Nat.mod_lt _ h0)]
    simp
theorem make_nums (n : Nat) (hn : n ≤ 200000) (w : World) : (Instr.makeSlice 22 (.int .i64 (n : Int)) (.int .i64 (n : Int))).run Try.prog w = .ok (.slice (some ⟨w.heap.size, 0, none⟩) n n) (w.alloc (.cells ((List.replicate n (0 : Int)).map (Value.int .i64)).toArray 2)) := by
  obtain ⟨i, h1, h2, h3, h4⟩ := info_parts4 int64_info
  have := run_make (P := Try.prog) w 22 2 i _ Try.underlying22 h1 h2 .i64 .i64 n n (by omega) (by omega) (by rw [h4]; omega) (by omega)
  rw [this, made_nums _ (by decide) (fun i hi => by have h1 : i < 1 := hi; obtain rfl : i = 0 := by omega
                                                    rfl), h3, Int.toNat_natCast, Nat.mul_one]

theorem arr_zeros (m : Nat) : ((List.replicate m (0 : Int)).map (Value.int .i64)).toArray = Array.replicate m (Value.int .i64 0) := by simp
theorem make_nums2 (n : Nat) (hn : n ≤ 200000) (w : World) : (Instr.makeSlice 22 (.int .i64 (n : Int)) (.int .i64 (n : Int))).run Try.prog w = .ok (.slice (some ⟨w.heap.size, 0, none⟩) n n) (w.alloc (.cells (Array.replicate n (Value.int .i64 0)) 2)) := by
  rw [make_nums n hn w, arr_zeros]

/-- numbers in a block of their own -/
def Nums (w : World) (g : Nat) (l : List Int) : Prop := Box w g (l.map (Value.int .i64)).toArray 2
theorem Nums.set {w : World} {g : Nat} {l : List Int} (h : Nums w g l) (k : Nat) (z : Int) : Nums (w.setCell ⟨g, k, none⟩ (.int .i64 z)) g (l.set k z) := by
  unfold Nums Box
  rw [setCell_eq_setRow w g k _ _ _ _ h, setRow_heap w g _ _ _ _ h]
  simp only [List.setIfInBounds_toArray, List.map_set]
theorem Nums.ints {w : World} {g : Nat} {l : List Int} (h : Nums w g l) : IntsAt w (some ⟨g, 0, none⟩) l := box_ints h rfl
theorem Nums.fz {w : World} {g : Nat} {l : List Int} (h : Nums w g l) (k : Nat) : w.frozen? ⟨g, k, none⟩ = false := by unfold World.frozen?; rw [show w.heap[g]? = _ from h]; simp
/-- the first k of a list, and noughts -/
def filled (l : List Int) (m k : Nat) : List Int := l.take k ++ List.replicate (m - k) 0
theorem filled_none (l : List Int) (m : Nat) : filled l m 0 = List.replicate m 0 := by simp [filled]
theorem filled_all (l : List Int) (m : Nat) (h : l.length = m) : filled l m m = l := by simp [filled, ← h]
theorem filled_len (l : List Int) (m k : Nat) (h : l.length = m) (hk : k ≤ m) : (filled l m k).length = m := by simp [filled]; omega
theorem filled_set (l : List Int) (m k : Nat) (z : Int) (h : l.length = m) (hz : l[k]? = some z) : (filled l m k).set k z = filled l m (k + 1) := by
  have hk : k < m := by have := (List.getElem?_eq_some_iff.1 hz).1; omega
  have hr : List.replicate (m - k) (0 : Int) = 0 :: List.replicate (m - (k + 1)) 0 := by
    rw [show m - k = (m - (k + 1)) + 1 by omega, List.replicate_succ]
  have hl : (l.take k).length = k := by rw [List.length_take]; omega
  unfold filled
  rw [List.set_append_right _ _ (by omega), hl, Nat.sub_self, hr, List.set_cons_zero, List.take_add_one, hz]
  simp
theorem sum_filled {W : World} {g m : Nat} {l : List Int} {a e0 : Int} (h : Nums W g (filled l m m)) (hl : l.length = m) (hm : m ≤ 1000) (hr : Grp.sumS l = (a, e0)) :
    Calls Try.prog 41 #[.slice (some ⟨g, 0, none⟩) m m] W fun e w' => e = .returned (.tuple #[.int .i64 a, .int .i64 e0]) ∧ W = w' := by
  have h1 := h.ints
  rw [filled_all _ _ hl] at h1
  have h2 := mon_sum (some ⟨g, 0, none⟩) m l W (by rw [hl]; unfold maxLen; omega) h1
  rw [hl, hr] at h2
  exact h2

set_option maxHeartbeats 1000000 in
theorem num_w (a0 a1 a2 a3 a4 a5 a6 a7 : Int) (w : World) :
    Calls Try.prog 116 #[.agg #[.int .i64 a0, .int .i64 a1, .int .i64 a2, .int .i64 a3, .int .i64 a4, .int .i64 a5, .int .i64 a6, .int .i64 a7]] w fun e w' => e = .returned (.int .i64 a3) ∧ Below w.heap.size w w' := by
  go_enter Try.func116, Try.ntmps116
  go_wp2
  go_ret
  exact ⟨rfl, below_alloc _ _⟩

set_option maxHeartbeats 2000000 in
set_option maxRecDepth 100000 in
theorem sumOf_w (A : Option Addr) (m c : Nat) (l : List Ld.O) (w : World) (a e0 : Int) (hr : Grp.sumS (l.map Ld.O.weight) = (a, e0)) (hm : l.length = m) (hm2 : m ≤ 1000) (hl : OrdersAt w A l) :
    Calls Try.prog 115 #[.slice A m c, .func (.func 116) #[] #[]] w fun e w' => e = .returned (.tuple #[.int .i64 a, .int .i64 e0]) ∧ Hid (Below w.heap.size w w') := by
  have HL := Lib.hid hl
  have HM := Lib.hid hm
  have HR := Lib.hid hr
  have hmk : ∀ W : World, (Instr.makeSlice 22 (.int .i64 (m : Int)) (.int .i64 (m : Int))).run Try.prog W = .ok (.slice (some ⟨W.heap.size, 0, none⟩) m m) (W.alloc (.cells (Array.replicate m (Value.int .i64 0)) 2)) := make_nums2 m (by omega)
  have HS0 : Hid (Below w.heap.size w (w.alloc (.cells (Array.replicate m (Value.int .i64 0)) 2)) ∧ Nums (w.alloc (.cells (Array.replicate m (Value.int .i64 0)) 2)) w.heap.size (filled (l.map Ld.O.weight) m 0)) := ⟨below_alloc _ _, by rw [filled_none]; unfold Nums; rw [arr_zeros]; exact Box.new _ _ _⟩
  clear hl hm hr
  go_enter Try.func115, Try.ntmps115
  go_wp2_with fail
  generalize w.alloc (.cells (Array.replicate m (Value.int .i64 0)) 2) = W0 at *
  clear hmk
  have HSB := Lib.hid HS0.out.1
  have HSN := Lib.hid HS0.out.2
  clear HS0
  obtain ⟨g, hg⟩ : ∃ g, g = w.heap.size := ⟨_, rfl⟩
  rw [← hg] at HSN ⊢
  have HG := Lib.hid hg
  clear hg
  go_loopg [14] m (fun gk s14 W => ∃ (k : Nat), k + gk = m ∧ s14 = .int .i64 k ∧ Hid (Below w.heap.size w W) ∧ Hid (Nums W g (filled (l.map Ld.O.weight) m k)))
  case atStart => exact ⟨0, by omega, rfl, HSB.out, HSN.out⟩
  case round =>
    obtain ⟨k, hkg, rfl, HB, HNU⟩ := hrel
    by_cases hlt : k < m
    · obtain ⟨gk, rfl⟩ : ∃ j, gk = j + 1 := ⟨gk - 1, by omega⟩
      obtain ⟨s, hs⟩ := mlist_at l k (by rw [HM.out]; exact hlt)
      obtain ⟨ad, rfl, hc⟩ := (HL.out.below HB.out).at_ hs
      obtain ⟨c0, c1, c2, c3, c4, c5, c6, c7⟩ := hc
      obtain ⟨a0, a1, a2, a3, a4, a5, a6, a7⟩ := s
      simp only at c0 c1 c2 c3 c4 c5 c6 c7
      have hid : (l.map Ld.O.weight)[k]? = some a3 := by rw [List.getElem?_map, hs]; rfl
      have HSET := Lib.hid (filled_set (l.map Ld.O.weight) m k a3 (by rw [List.length_map]; exact HM.out) hid)
      have HLEN := Lib.hid (filled_len (l.map Ld.O.weight) m k (by rw [List.length_map]; exact HM.out) (by omega))
      have HB2 := Lib.hid (below_more HB.out)
      have HNU2 : Hid (∀ o, Nums _ g (filled (l.map Ld.O.weight) m k)) := fun o => HNU.out.below (below_alloc _ o)
      have HI : Hid (∀ W, Below w.heap.size w W → Nums W g (filled (l.map Ld.O.weight) m k) → Calls Try.prog 116 #[.agg #[.int .i64 a0, .int .i64 a1, .int .i64 a2, .int .i64 a3, .int .i64 a4, .int .i64 a5, .int .i64 a6, .int .i64 a7]] W fun e w' => e = .returned (.int .i64 a3) ∧ Hid (Below w.heap.size w w' ∧ Nums w' g (filled (l.map Ld.O.weight) m k))) := fun W hb hn =>
        (num_w a0 a1 a2 a3 a4 a5 a6 a7 W).mono fun _ _ ⟨e1, e2⟩ => ⟨e1, below_next hb e2, hn.below e2⟩
      have HCE : Hid (∀ W, Nums W g (filled (l.map Ld.O.weight) m k) → ∃ z, W.cell? ⟨g, k, none⟩ = some (.int .i64 z)) := fun W hn => by
        obtain ⟨z, hz⟩ := mlist_at (filled (l.map Ld.O.weight) m k) k (by rw [HLEN.out]; exact hlt)
        exact ⟨z, hn.cell k _ (by simp [hz])⟩
      clear hs hid
      generalize filled (l.map Ld.O.weight) m k = FK at *
      go_wp2_with fail
      with_reducible refine (HI.out _ (HB2.out _) (HNU2.out _)).mono ?_
      rintro e w2 ⟨rfl, hb2⟩
      obtain ⟨z, x1⟩ := HCE.out w2 hb2.out.2
      have x2 := hb2.out.2.fz k
      clear HB2 HNU2 HI HCE
      go_wp2
      go_roundg gk
      case measure => omega
      case rel => exact ⟨k + 1, by omega, by first | rfl | go_num, hb2.out.1.setCell (p := ⟨g, k, none⟩) (by show w.heap.size ≤ g; rw [HG.out]; exact Nat.le_refl _) _, by rw [← HSET.out]; exact hb2.out.2.set k _⟩
    · have hk : k = m := by omega
      subst hk
      have HC := Lib.hid (sum_filled HNU.out (by rw [List.length_map]; exact HM.out) hm2 HR.out)
      go_wp2_with (go_at_call 41; refine HC.out.mono ?_; rintro e w2 ⟨rfl, rfl⟩)
      go_ret2
      exact ⟨rfl, HB.out⟩

set_option maxHeartbeats 1000000 in
theorem num_v (a0 a1 a2 a3 a4 a5 a6 a7 : Int) (w : World) :
    Calls Try.prog 117 #[.agg #[.int .i64 a0, .int .i64 a1, .int .i64 a2, .int .i64 a3, .int .i64 a4, .int .i64 a5, .int .i64 a6, .int .i64 a7]] w fun e w' => e = .returned (.int .i64 a4) ∧ Below w.heap.size w w' := by
  go_enter Try.func117, Try.ntmps117
  go_wp2
  go_ret
  exact ⟨rfl, below_alloc _ _⟩

set_option maxHeartbeats 2000000 in
set_option maxRecDepth 100000 in
theorem sumOf_v (A : Option Addr) (m c : Nat) (l : List Ld.O) (w : World) (a e0 : Int) (hr : Grp.sumS (l.map Ld.O.volume) = (a, e0)) (hm : l.length = m) (hm2 : m ≤ 1000) (hl : OrdersAt w A l) :
    Calls Try.prog 115 #[.slice A m c, .func (.func 117) #[] #[]] w fun e w' => e = .returned (.tuple #[.int .i64 a, .int .i64 e0]) ∧ Hid (Below w.heap.size w w') := by
  have HL := Lib.hid hl
  have HM := Lib.hid hm
  have HR := Lib.hid hr
  have hmk : ∀ W : World, (Instr.makeSlice 22 (.int .i64 (m : Int)) (.int .i64 (m : Int))).run Try.prog W = .ok (.slice (some ⟨W.heap.size, 0, none⟩) m m) (W.alloc (.cells (Array.replicate m (Value.int .i64 0)) 2)) := make_nums2 m (by omega)
  have HS0 : Hid (Below w.heap.size w (w.alloc (.cells (Array.replicate m (Value.int .i64 0)) 2)) ∧ Nums (w.alloc (.cells (Array.replicate m (Value.int .i64 0)) 2)) w.heap.size (filled (l.map Ld.O.volume) m 0)) := ⟨below_alloc _ _, by rw [filled_none]; unfold Nums; rw [arr_zeros]; exact Box.new _ _ _⟩
  clear hl hm hr
  go_enter Try.func115, Try.ntmps115
  go_wp2_with fail
  generalize w.alloc (.cells (Array.replicate m (Value.int .i64 0)) 2) = W0 at *
  clear hmk
  have HSB := Lib.hid HS0.out.1
  have HSN := Lib.hid HS0.out.2
  clear HS0
  obtain ⟨g, hg⟩ : ∃ g, g = w.heap.size := ⟨_, rfl⟩
  rw [← hg] at HSN ⊢
  have HG := Lib.hid hg
  clear hg
  go_loopg [14] m (fun gk s14 W => ∃ (k : Nat), k + gk = m ∧ s14 = .int .i64 k ∧ Hid (Below w.heap.size w W) ∧ Hid (Nums W g (filled (l.map Ld.O.volume) m k)))
  case atStart => exact ⟨0, by omega, rfl, HSB.out, HSN.out⟩
  case round =>
    obtain ⟨k, hkg, rfl, HB, HNU⟩ := hrel
    by_cases hlt : k < m
    · obtain ⟨gk, rfl⟩ : ∃ j, gk = j + 1 := ⟨gk - 1, by omega⟩
      obtain ⟨s, hs⟩ := mlist_at l k (by rw [HM.out]; exact hlt)
      obtain ⟨ad, rfl, hc⟩ := (HL.out.below HB.out).at_ hs
      obtain ⟨c0, c1, c2, c3, c4, c5, c6, c7⟩ := hc
      obtain ⟨a0, a1, a2, a3, a4, a5, a6, a7⟩ := s
      simp only at c0 c1 c2 c3 c4 c5 c6 c7
      have hid : (l.map Ld.O.volume)[k]? = some a4 := by rw [List.getElem?_map, hs]; rfl
      have HSET := Lib.hid (filled_set (l.map Ld.O.volume) m k a4 (by rw [List.length_map]; exact HM.out) hid)
      have HLEN := Lib.hid (filled_len (l.map Ld.O.volume) m k (by rw [List.length_map]; exact HM.out) (by omega))
      have HB2 := Lib.hid (below_more HB.out)
      have HNU2 : Hid (∀ o, Nums _ g (filled (l.map Ld.O.volume) m k)) := fun o => HNU.out.below (below_alloc _ o)
      have HI : Hid (∀ W, Below w.heap.size w W → Nums W g (filled (l.map Ld.O.volume) m k) → Calls Try.prog 117 #[.agg #[.int .i64 a0, .int .i64 a1, .int .i64 a2, .int .i64 a3, .int .i64 a4, .int .i64 a5, .int .i64 a6, .int .i64 a7]] W fun e w' => e = .returned (.int .i64 a4) ∧ Hid (Below w.heap.size w w' ∧ Nums w' g (filled (l.map Ld.O.volume) m k))) := fun W hb hn =>
        (num_v a0 a1 a2 a3 a4 a5 a6 a7 W).mono fun _ _ ⟨e1, e2⟩ => ⟨e1, below_next hb e2, hn.below e2⟩
      have HCE : Hid (∀ W, Nums W g (filled (l.map Ld.O.volume) m k) → ∃ z, W.cell? ⟨g, k, none⟩ = some (.int .i64 z)) := fun W hn => by
        obtain ⟨z, hz⟩ := mlist_at (filled (l.map Ld.O.volume) m k) k (by rw [HLEN.out]; exact hlt)
        exact ⟨z, hn.cell k _ (by simp [hz])⟩
      clear hs hid
      generalize filled (l.map Ld.O.volume) m k = FK at *
      go_wp2_with fail
      with_reducible refine (HI.out _ (HB2.out _) (HNU2.out _)).mono ?_
      rintro e w2 ⟨rfl, hb2⟩
      obtain ⟨z, x1⟩ := HCE.out w2 hb2.out.2
      have x2 := hb2.out.2.fz k
      clear HB2 HNU2 HI HCE
      go_wp2
      go_roundg gk
      case measure => omega
      case rel => exact ⟨k + 1, by omega, by first | rfl | go_num, hb2.out.1.setCell (p := ⟨g, k, none⟩) (by show w.heap.size ≤ g; rw [HG.out]; exact Nat.le_refl _) _, by rw [← HSET.out]; exact hb2.out.2.set k _⟩
    · have hk : k = m := by omega
      subst hk
      have HC := Lib.hid (sum_filled HNU.out (by rw [List.length_map]; exact HM.out) hm2 HR.out)
      go_wp2_with (go_at_call 41; refine HC.out.mono ?_; rintro e w2 ⟨rfl, rfl⟩)
      go_ret2
      exact ⟨rfl, HB.out⟩

set_option maxHeartbeats 1000000 in
theorem sum_val (A : Option Addr) (m c : Nat) (l : List Ld.O) (w : World) (a b e0 : Int) (hr : Ld.sumE l = (a, b, e0)) (hm : l.length = m) (hm2 : m ≤ 1000) (hl : OrdersAt w A l) :
    Calls Try.prog 103 #[.slice A m c] w fun e w' => e = .returned (.tuple #[.int .i64 a, .int .i64 b, .int .i64 e0]) ∧ Hid (Below w.heap.size w w') := by
  obtain ⟨x, ex, hx⟩ : ∃ x ex, Grp.sumS (l.map Ld.O.weight) = (x, ex) := ⟨_, _, rfl⟩
  obtain ⟨y, ey, hy⟩ : ∃ y ey, Grp.sumS (l.map Ld.O.volume) = (y, ey) := ⟨_, _, rfl⟩
  have HC1 := Lib.hid (sumOf_w A m c l w x ex hx hm hm2 hl)
  have HC2 : Hid (∀ W, Below w.heap.size w W → Calls Try.prog 115 #[.slice A m c, .func (.func 117) #[] #[]] W fun e w' => e = .returned (.tuple #[.int .i64 y, .int .i64 ey]) ∧ Hid (Below w.heap.size w w')) := fun W hb =>
    (sumOf_v A m c l W y ey hy hm hm2 (hl.below hb)).mono fun _ _ ⟨e1, e2⟩ => ⟨e1, below_next hb e2.out⟩
  by_cases h1 : ex = 0
  · subst h1
    by_cases h2 : ey = 0
    · subst h2
      rw [Ld.sum_ok hx hy] at hr
      injection hr with r1 hr
      injection hr with r2 r3
      subst r1 r2 r3
      clear hx hy hl hm
      go_enter Try.func103, Try.ntmps103
      go_wp2_with fail
      with_reducible refine HC1.out.mono ?_
      rintro e w1 ⟨rfl, hb1⟩
      go_wp2_with fail
      with_reducible refine (HC2.out w1 hb1.out).mono ?_
      rintro e w2 ⟨rfl, hb2⟩
      go_wp2
      go_ret3
      exact ⟨rfl, hb2.out⟩
    · rw [Ld.sum_v hx hy h2] at hr
      injection hr with r1 hr
      injection hr with r2 r3
      subst r1 r2 r3
      have d2 : (ey != 0) = true := bne_iff_ne.2 h2
      clear hx hy hl hm h2
      go_enter Try.func103, Try.ntmps103
      go_wp2_with fail
      with_reducible refine HC1.out.mono ?_
      rintro e w1 ⟨rfl, hb1⟩
      go_wp2_with fail
      with_reducible refine (HC2.out w1 hb1.out).mono ?_
      rintro e w2 ⟨rfl, hb2⟩
      go_wp2
      go_ret3
      exact ⟨rfl, hb2.out⟩
  · rw [Ld.sum_w hx h1] at hr
    injection hr with r1 hr
    injection hr with r2 r3
    subst r1 r2 r3
    have d1 : (ex != 0) = true := bne_iff_ne.2 h1
    clear hx hy hl hm h1
    go_enter Try.func103, Try.ntmps103
    go_wp2_with fail
    with_reducible refine HC1.out.mono ?_
    rintro e w1 ⟨rfl, hb1⟩
    go_wp2
    go_ret3
    exact ⟨rfl, hb1.out⟩

set_option maxHeartbeats 1000000 in
theorem car_val (t : Ld.T) (A : Option Addr) (m c : Nat) (l : List Ld.O) (w : World) (r : Int) (hr : Ld.carE t l = r) (hm : l.length = m) (hm2 : m ≤ 1000) (hl : OrdersAt w A l) :
    Calls Try.prog 82 #[.agg #[.int .i64 t.id, .int .i64 t.weight, .int .i64 t.volume, .int .i64 t.start, .int .i64 t.fin, .int .i64 t.fixed, .int .i64 t.rate], .slice A m c] w fun e w' => e = .returned (.int .i64 r) ∧ Hid (Below w.heap.size w w') := by
  obtain ⟨a, b, e0, hs⟩ : ∃ a b e0, Ld.sumE l = (a, b, e0) := ⟨_, _, _, rfl⟩
  have HR := Lib.hid hr
  obtain ⟨a0, a1, a2, a3, a4, a5, a6⟩ := t
  have HB0 : Hid (Below w.heap.size w (w.alloc (.cells #[.int .i64 a0, .int .i64 a1, .int .i64 a2, .int .i64 a3, .int .i64 a4, .int .i64 a5, .int .i64 a6] 59))) := below_alloc _ _
  have HX : Hid (Box (w.alloc (.cells #[.int .i64 a0, .int .i64 a1, .int .i64 a2, .int .i64 a3, .int .i64 a4, .int .i64 a5, .int .i64 a6] 59)) w.heap.size #[.int .i64 a0, .int .i64 a1, .int .i64 a2, .int .i64 a3, .int .i64 a4, .int .i64 a5, .int .i64 a6] 59) := Box.new _ _ _
  have HC := Lib.hid (sum_val A m c l _ a b e0 hs hm hm2 (hl.below HB0.out))
  clear hl hm hr
  by_cases h1 : e0 = 0
  · subst h1
    by_cases h2 : a1 < a
    · have HR2 := Lib.hid (Ld.car_more (t := ⟨a0, a1, a2, a3, a4, a5, a6⟩) hs (.inl h2))
      have d1 : decide (a1 < a) = true := decide_eq_true h2
      clear hs h2
      go_enter Try.func82, Try.ntmps82
      go_wp2_with fail
      with_reducible refine HC.out.mono ?_
      rintro e w1 ⟨rfl, hb1⟩
      have x1 : w1.cell? ⟨w.heap.size, 1, none⟩ = some (.int .i64 a1) := (HX.out.below hb1.out).cell 1 _ rfl
      go_wp2
      go_ret
      exact ⟨by rw [← HR.out, HR2.out]; rfl, below_next HB0.out hb1.out⟩
    · have d1 : decide (a1 < a) = false := decide_eq_false h2
      by_cases h3 : a2 < b
      · have HR2 := Lib.hid (Ld.car_more (t := ⟨a0, a1, a2, a3, a4, a5, a6⟩) hs (.inr h3))
        have d2 : decide (a2 < b) = true := decide_eq_true h3
        clear hs h2 h3
        go_enter Try.func82, Try.ntmps82
        go_wp2_with fail
        with_reducible refine HC.out.mono ?_
        rintro e w1 ⟨rfl, hb1⟩
        have x1 : w1.cell? ⟨w.heap.size, 1, none⟩ = some (.int .i64 a1) := (HX.out.below hb1.out).cell 1 _ rfl
        have x2 : w1.cell? ⟨w.heap.size, 2, none⟩ = some (.int .i64 a2) := (HX.out.below hb1.out).cell 2 _ rfl
        go_wp2
        go_ret
        exact ⟨by rw [← HR.out, HR2.out]; rfl, below_next HB0.out hb1.out⟩
      · have HR2 := Lib.hid (Ld.car_ok (t := ⟨a0, a1, a2, a3, a4, a5, a6⟩) hs (by show a ≤ a1; omega) (by show b ≤ a2; omega))
        have d2 : decide (a2 < b) = false := decide_eq_false h3
        clear hs h2 h3
        go_enter Try.func82, Try.ntmps82
        go_wp2_with fail
        with_reducible refine HC.out.mono ?_
        rintro e w1 ⟨rfl, hb1⟩
        have x1 : w1.cell? ⟨w.heap.size, 1, none⟩ = some (.int .i64 a1) := (HX.out.below hb1.out).cell 1 _ rfl
        have x2 : w1.cell? ⟨w.heap.size, 2, none⟩ = some (.int .i64 a2) := (HX.out.below hb1.out).cell 2 _ rfl
        go_wp2
        go_ret
        exact ⟨by rw [← HR.out, HR2.out]; rfl, below_next HB0.out hb1.out⟩
  · have HR2 := Lib.hid (Ld.car_err (t := ⟨a0, a1, a2, a3, a4, a5, a6⟩) hs h1)
    have d1 : (e0 != 0) = true := bne_iff_ne.2 h1
    clear hs h1
    go_enter Try.func82, Try.ntmps82
    go_wp2_with fail
    with_reducible refine HC.out.mono ?_
    rintro e w1 ⟨rfl, hb1⟩
    go_wp2
    go_ret
    exact ⟨by rw [← HR.out, HR2.out]; rfl, below_next HB0.out hb1.out⟩

set_option maxHeartbeats 1000000 in
theorem find_val (A : Option Addr) (m c : Nat) (l : List Ld.O) (id : Int) (w : World) (r : Int) (hr : Ld.findI (l.map Ld.O.id) id = r) (hm : l.length = m) (hm2 : m ≤ 1000) (hl : OrdersAt w A l) :
    Calls Try.prog 46 #[.slice A m c, .int .i64 id] w fun e w' => e = .returned (.int .i64 r) ∧ Hid (Below w.heap.size w w') := by
  have HC := Lib.hid (first_o A m c l id w r hr hm hm2 hl)
  clear hl hm hr
  go_enter Try.func46, Try.ntmps46
  go_wp2_with fail
  with_reducible refine HC.out.mono ?_
  rintro e w1 ⟨rfl, hb1⟩
  go_wp2
  go_ret
  exact ⟨rfl, hb1.out⟩

end Go.Proofs.Ytbacakblboodeaa
