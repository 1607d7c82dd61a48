/- Contracts: the document's disk (New, Fuse, Crash, Turn, Write), for the laws on logs. -/
import Derived.Test.YtoocifoglhhnmaaLogBase
import Derived.BigRegion
namespace Go.Proofs.Ytoocifoglhhnmaa
open Go.RowKit

/-- the fuse as the document's answer keeps it -/
def burn (d : Dk.D) : Int := max d.fuse (-1)

/-- A disk of the document's answer: its struct lies in block g, its bytes in block s. -/
structure RDiskAt (w : World) (g s n : Nat) (d : Dk.D) : Prop where
  top : w.heap[g]? = some (.cells #[.slice (some ⟨s, 0, none⟩) (32 * n) (32 * n), .bool (!d.up), .int .i64 (burn d), .int .i64 d.torn, .int .i64 d.writes] 63 (0, 0))
  row : w.heap[s]? = some (.cells (d.b.map bv).toArray 5 (0, 0))
  good : Dk.Good n d
  n0 : 2 ≤ n
  n1 : n ≤ 4096

theorem RDiskAt.ne {w : World} {g s n : Nat} {d : Dk.D} (h : RDiskAt w g s n d) : g ≠ s := blocks_ne h.top h.row (by decide)
theorem RDiskAt.ltg {w : World} {g s n : Nat} {d : Dk.D} (h : RDiskAt w g s n d) : g < w.heap.size := (Array.getElem?_eq_some_iff.1 h.top).1
theorem RDiskAt.lts {w : World} {g s n : Nat} {d : Dk.D} (h : RDiskAt w g s n d) : s < w.heap.size := (Array.getElem?_eq_some_iff.1 h.row).1
theorem RDiskAt.keep {F : Nat → Prop} {w w' : World} {g s n : Nat} {d : Dk.D} (h : RDiskAt w g s n d) (hk : Kept F w w') (hg : ¬ F g) (hs : ¬ F s) : RDiskAt w' g s n d :=
  ⟨(hk.block g h.ltg hg).trans h.top, (hk.block s h.lts hs).trans h.row, h.good, h.n0, h.n1⟩
theorem RDiskAt.c0 {w : World} {g s n : Nat} {d : Dk.D} (h : RDiskAt w g s n d) : w.cell? ⟨g, 0, none⟩ = some (.slice (some ⟨s, 0, none⟩) (32 * n) (32 * n)) := by rw [cell_of_row w g 0 _ _ _ h.top]; rfl
theorem RDiskAt.c1 {w : World} {g s n : Nat} {d : Dk.D} (h : RDiskAt w g s n d) : w.cell? ⟨g, 1, none⟩ = some (.bool (!d.up)) := by rw [cell_of_row w g 1 _ _ _ h.top]; rfl
theorem RDiskAt.c2 {w : World} {g s n : Nat} {d : Dk.D} (h : RDiskAt w g s n d) : w.cell? ⟨g, 2, none⟩ = some (.int .i64 (burn d)) := by rw [cell_of_row w g 2 _ _ _ h.top]; rfl
theorem RDiskAt.c3 {w : World} {g s n : Nat} {d : Dk.D} (h : RDiskAt w g s n d) : w.cell? ⟨g, 3, none⟩ = some (.int .i64 d.torn) := by rw [cell_of_row w g 3 _ _ _ h.top]; rfl
theorem RDiskAt.c4 {w : World} {g s n : Nat} {d : Dk.D} (h : RDiskAt w g s n d) : w.cell? ⟨g, 4, none⟩ = some (.int .i64 d.writes) := by rw [cell_of_row w g 4 _ _ _ h.top]; rfl
theorem RDiskAt.fz {w : World} {g s n : Nat} {d : Dk.D} (h : RDiskAt w g s n d) (k : Nat) : w.frozen? ⟨g, k, none⟩ = false := by unfold World.frozen?; rw [h.top]; simp
theorem RDiskAt.fzs {w : World} {g s n : Nat} {d : Dk.D} (h : RDiskAt w g s n d) (k : Nat) : w.frozen? ⟨s, k, none⟩ = false := by unfold World.frozen?; rw [h.row]; simp
theorem RDiskAt.byte {w : World} {g s n : Nat} {d : Dk.D} (h : RDiskAt w g s n d) {k : Nat} {b : UInt8} (hb : d.b[k]? = some b) : w.cell? ⟨s, k, none⟩ = some (.int .u8 (b.toNat : Int)) := by
  rw [cell_of_row w s k _ _ _ h.row]
  simp [hb, bv]

theorem RDiskAt.set {w : World} {g s n : Nat} {d d' : Dk.D} (h : RDiskAt w g s n d) (k : Nat) (u : Value)
    (he : (#[.slice (some ⟨s, 0, none⟩) (32 * n) (32 * n), .bool (!d.up), .int .i64 (burn d), .int .i64 d.torn, .int .i64 d.writes] : Array Value).setIfInBounds k u = #[.slice (some ⟨s, 0, none⟩) (32 * n) (32 * n), .bool (!d'.up), .int .i64 (burn d'), .int .i64 d'.torn, .int .i64 d'.writes])
    (hb : d'.b = d.b) (hg : Dk.Good n d') : RDiskAt (w.setCell ⟨g, k, none⟩ u) g s n d' := by
  refine ⟨?_, ?_, hg, h.n0, h.n1⟩
  · rw [setCell_eq_setRow w g k _ _ _ u h.top, ← he]
    exact setRow_heap w g _ _ _ _ h.top
  · rw [Below.heap_setCell _ _ _ _ (Ne.symm h.ne), hb]
    exact h.row

theorem RDiskAt.setByte {w : World} {g s n : Nat} {d : Dk.D} (h : RDiskAt w g s n d) (k : Nat) (y : UInt8) : RDiskAt (w.setCell ⟨s, k, none⟩ (.int .u8 (y.toNat : Int))) g s n { d with b := d.b.set k y } := by
  refine ⟨?_, ?_, ⟨by simpa using h.good.len, h.good.t0, h.good.t1, h.good.f0, h.good.f1, h.good.w0⟩, h.n0, h.n1⟩
  · rw [Below.heap_setCell _ _ _ _ h.ne]
    exact h.top
  · rw [setCell_eq_setRow w s k _ _ _ _ h.row, setRow_heap w s _ _ _ _ h.row]
    simp [List.map_set, bv]

set_option maxHeartbeats 1000000 in
set_option maxRecDepth 100000 in
theorem rnew_ok (n : Nat) (w : World) (h0 : 2 ≤ n) (h1 : n ≤ 4096) :
    Calls Try.prog 9 #[.int .i64 n] w fun e w' => e = .returned (.tuple #[.pointer (some ⟨w.heap.size + 1, 0, none⟩), .int .i64 0]) ∧ RDiskAt w' (w.heap.size + 1) w.heap.size n (Dk.fresh n) ∧ Below w.heap.size w w' := by
  have hmk : ∀ W : World, (Instr.makeSlice 38 (.int .i64 (32 * (n : Int))) (.int .i64 (32 * (n : Int)))).run Try.prog W = .ok (.slice (some ⟨W.heap.size, 0, none⟩) (32 * n) (32 * n)) (W.alloc (.cells ((List.replicate (32 * n) (0 : UInt8)).map bv).toArray 5)) := fun W => by
    have := make_bytes (32 * n) (by omega) W
    rw [Int.natCast_mul] at this
    exact this
  have HZ : Hid (((Dk.fresh n).b.map bv).toArray = ((List.replicate (32 * n) (0 : UInt8)).map bv).toArray) := rfl
  generalize ((List.replicate (32 * n) (0 : UInt8)).map bv).toArray = Z at *
  go_enter Try.func9, Try.ntmps9
  go_wp2
  go_ret2
  refine ⟨rfl, ⟨?_, ?_, Dk.fresh_good n, h0, h1⟩, ((Below.refl _ _).alloc (Nat.le_refl _) _).alloc (by simp) _⟩
  · have := heap_alloc_new (w.alloc (.cells Z 5)) (.cells #[.slice (some ⟨w.heap.size, 0, none⟩) (32 * n) (32 * n), .bool false, .int .i64 (-1), .int .i64 0, .int .i64 0] 63)
    rw [show (w.alloc (.cells Z 5)).heap.size = w.heap.size + 1 by simp] at this
    exact this
  · rw [Below.heap_alloc _ _ _ (by simp), HZ.out]
    exact heap_alloc_new w _

set_option maxHeartbeats 400000 in
theorem rnew_no (n : Int) (w : World) (h : n < 2 ∨ 4096 < n) :
    Calls Try.prog 9 #[.int .i64 n] w fun e w' => e = .returned (.tuple #[.pointer none, .int .i64 1]) ∧ w = w' := by
  by_cases h1 : n < 2
  · have d1 : decide (n < 2) = true := decide_eq_true h1
    clear h
    go_enter Try.func9, Try.ntmps9
    go_wp2
    go_ret2
    exact ⟨rfl, rfl⟩
  · have d1 : decide (n < 2) = false := decide_eq_false h1
    have d2 : decide (4096 < n) = true := decide_eq_true (by omega)
    clear h
    go_enter Try.func9, Try.ntmps9
    go_wp2
    go_ret2
    exact ⟨rfl, rfl⟩

set_option maxHeartbeats 400000 in
theorem rcrash_any (g s n : Nat) (d : Dk.D) (w : World) (h : RDiskAt w g s n d) :
    Calls Try.prog 22 #[.pointer (some ⟨g, 0, none⟩)] w fun e w' => e = .returned (.tuple #[]) ∧ RDiskAt w' g s n (Dk.crash d) ∧ Kept (Two g s) w w' := by
  have c1 := h.c1
  have c2 := h.c2
  have f1 := h.fz 1
  have f2 := h.fz 2
  have h1 : RDiskAt (w.setCell ⟨g, 1, none⟩ (.bool false)) g s n { d with up := true } := h.set 1 _ rfl rfl ⟨h.good.len, h.good.t0, h.good.t1, h.good.f0, h.good.f1, h.good.w0⟩
  have h2 : RDiskAt ((w.setCell ⟨g, 1, none⟩ (.bool false)).setCell ⟨g, 2, none⟩ (.int .i64 (-1))) g s n (Dk.crash d) := h1.set 2 _ rfl rfl (Dk.crash_good h.good)
  have HD := Lib.hid h2
  clear h h1 h2
  generalize burn d = bu at *
  generalize (!d.up) = ru at *
  go_enter Try.func22, Try.ntmps22
  go_wp2
  go_end0
  exact ⟨rfl, HD.out, (kept_set g s 1 _).trans (kept_set g s 2 _)⟩

set_option maxHeartbeats 400000 in
theorem rfuse_any (g s n : Nat) (d : Dk.D) (a c : Int) (w : World) (h : RDiskAt w g s n d) (ha : -9223372036854775808 ≤ a) (ha' : a ≤ 9223372036854775807) :
    Calls Try.prog 13 #[.pointer (some ⟨g, 0, none⟩), .int .i64 a, .int .i64 c] w fun e w' => e = .returned (.tuple #[]) ∧ RDiskAt w' g s n (Dk.fuseTo d a c) ∧ Kept (Two g s) w w' := by
  have c2 := h.c2
  have c3 := h.c3
  have f1 := h.fz 2
  have f2 := h.fz 3
  have h2 : ∀ y x : Int, y = max a (-1) → x = min (max c 0) 32 → RDiskAt ((w.setCell ⟨g, 2, none⟩ (.int .i64 y)).setCell ⟨g, 3, none⟩ (.int .i64 x)) g s n (Dk.fuseTo d a c) := fun y x hy hx => by
    subst hx hy
    have h1 : RDiskAt (w.setCell ⟨g, 2, none⟩ (.int .i64 (max a (-1)))) g s n { d with fuse := a } := h.set 2 _ rfl rfl ⟨h.good.len, h.good.t0, h.good.t1, ha, ha', h.good.w0⟩
    exact h1.set 3 _ rfl rfl (Dk.fuse_good h.good a c ha ha')
  have HD := Lib.hid h2
  clear h h2
  generalize burn d = bu at *
  go_enter Try.func13, Try.ntmps13
  go_wp2
  all_goals
    go_end0
    exact ⟨rfl, HD.out _ _ (by omega) (by omega), (kept_set g s 2 _).trans (kept_set g s 3 _)⟩

set_option maxHeartbeats 1000000 in
set_option maxRecDepth 100000 in
theorem rturn_any (g s n : Nat) (d : Dk.D) (k : Int) (y : UInt8) (w : World) (h : RDiskAt w g s n d) (hk : k ≤ 9223372036854775807) :
    Calls Try.prog 15 #[.pointer (some ⟨g, 0, none⟩), .int .i64 k, .int .u8 (y.toNat : Int)] w fun e w' => e = .returned (.int .i64 (Dk.tcode n k)) ∧ RDiskAt w' g s n (Dk.tstate n d k y) ∧ Kept (Two g s) w w' := by
  have hn1 := h.n1
  have c0 := h.c0
  obtain ⟨L, hL⟩ : ∃ L, 32 * n = L := ⟨_, rfl⟩
  rw [hL] at c0
  by_cases h1 : k < 0
  · have HC : Hid (Dk.tcode n k = 5) := by unfold Hid Dk.tcode; rw [if_neg (by omega)]
    have HS : Hid (Dk.tstate n d k y = d) := by unfold Hid Dk.tstate; rw [if_neg (by omega)]
    have d1 : decide (k < 0) = true := decide_eq_true h1
    have H := Lib.hid h
    clear h hL
    go_enter Try.func15, Try.ntmps15
    go_wp2
    go_ret
    exact ⟨by rw [HC.out]; rfl, by rw [HS.out]; exact H.out, Kept.refl _ _⟩
  obtain ⟨j, rfl⟩ := Int.eq_ofNat_of_zero_le (show 0 ≤ k by omega)
  have d1 : decide ((j : Int) < 0) = false := decide_eq_false (by omega)
  by_cases h2 : j < L
  · have HC : Hid (Dk.tcode n j = 0) := by unfold Hid Dk.tcode; rw [if_pos (by omega)]
    obtain ⟨b, hb⟩ := some_at d.b j (by rw [h.good.len]; omega)
    have e : Dk.tstate n d j y = { d with b := d.b.set j (b ^^^ y) } := by
      unfold Dk.tstate
      rw [if_pos ⟨by omega, by omega⟩, Int.toNat_natCast, List.getD_eq_getElem?_getD, hb]; rfl
    have ht := h.setByte j (b ^^^ y)
    rw [← e, UInt8.toNat_xor] at ht
    have HT := Lib.hid ht
    have hcell := h.byte hb
    have hfz := h.fzs j
    have hx := xor_u8 b y
    have i1 : (0 : Int) ≤ (j : Int) := by omega
    have i2 : (j : Int) < (L : Int) := by omega
    have d2 : decide ((L : Int) ≤ (j : Int)) = false := decide_eq_false (by omega)
    have d3 : decide (L ≤ j) = false := decide_eq_false (by omega)
    clear h hb ht e hL
    go_enter Try.func15, Try.ntmps15
    go_wp2
    go_region
    go_wp2
    go_ret
    exact ⟨by rw [HC.out]; rfl, HT.out.keep (F := No) (Kept.refl No _).drew id id, ((Kept.refl _ _).setCell (p := ⟨s, j, none⟩) (.inl (.inr rfl)) _).drew⟩
  · have HC : Hid (Dk.tcode n j = 5) := by unfold Hid Dk.tcode; rw [if_neg (by omega)]
    have HS : Hid (Dk.tstate n d j y = d) := by unfold Hid Dk.tstate; rw [if_neg (by omega)]
    have H := Lib.hid h
    have d2 : decide ((L : Int) ≤ (j : Int)) = true := decide_eq_true (by omega)
    have d3 : decide (L ≤ j) = true := decide_eq_true (by omega)
    clear h hL
    go_enter Try.func15, Try.ntmps15
    go_wp2
    go_ret
    exact ⟨by rw [HC.out]; rfl, by rw [HS.out]; exact H.out, Kept.refl _ _⟩

/-- a piece of bytes, of 32 -/
theorem slice_mid (A : Option Addr) (L j : Nat) (hj : 32 * j + 32 ≤ L) :
    ∃ A' c', (∀ W : World, (Instr.slice 38 (.slice A L L) (some (.int .i64 (32 * (j : Int)))) (some (.int .i64 (32 * (j : Int) + 32))) none).run Try.prog W = .ok (.slice A' 32 c') W) ∧
      ∀ (F : Nat → Prop) (W : World) (l : Dk.Bs), l.length = L → BytesIn F W A l → BytesIn F W A' (Dk.sec l j) := by
  refine ⟨if L = 32 * j then A else A.map (·.add (32 * j)), L - 32 * j, fun W => ?_, fun F W l hl h => ?_⟩
  · rw [run_slice_lh W 38 A L L (by kernel_rfl) .i64 .i64 _ _ (by omega) (by omega) (by omega), size5 W]
    have e1 : (32 * (j : Int) + 32).toNat = 32 * j + 32 := by omega
    have e2 : (32 * (j : Int)).toNat = 32 * j := by omega
    simp [sliced, Result.andThen, e1, e2]
  · rw [if_neg (by omega)]
    cases A with
    | none =>
      have : l = [] := by
        cases l with
        | nil => rfl
        | cons b l =>
          obtain ⟨ad, h1, _⟩ := BytesIn.at_ h (k := 0) (b := b) rfl
          cases h1
      subst this
      simp at hl
      omega
    | some ad =>
      unfold BytesIn at h ⊢
      unfold Dk.sec
      rw [List.map_take, List.map_drop]
      exact (CellsIn.drop h (32 * j)).take 32

theorem fill_eq (l : Dk.Bs) : Dk.fill l = l ++ List.replicate (32 - l.length) 0 := by
  unfold Dk.fill splice
  rw [List.take_zero, List.nil_append, Nat.zero_add, List.drop_replicate]

theorem lay_get (b : Dk.Bs) (n k f : Nat) (l : Dk.Bs) (hb : b.length = 32 * n) (hk : k < n) (hl : l.length ≤ 32) (hf : f ≤ 32) (p : Nat) :
    (Dk.lay b k l f)[p]? = if p < 32 * k then b[p]? else if p < 32 * k + f then (Dk.fill l)[p - 32 * k]? else b[p]? := by
  have hfl := Dk.fill_len hl
  have h1 : ((Dk.fill l).take f).length = f := by rw [List.length_take]; omega
  have h2 : (b.take (32 * k)).length = 32 * k := by rw [List.length_take]; omega
  unfold Dk.lay splice
  rw [h1]
  by_cases p1 : p < 32 * k
  · rw [if_pos p1, List.getElem?_append_left (by omega), List.getElem?_take_of_lt p1]
  · rw [if_neg p1, List.getElem?_append_right (by omega), h2]
    by_cases p2 : p < 32 * k + f
    · rw [if_pos p2, List.getElem?_append_left (by omega), List.getElem?_take_of_lt (by omega)]
    · rw [if_neg p2, List.getElem?_append_right (by omega), h1, List.getElem?_drop]
      congr 1
      omega

/-- one byte more is laid -/
theorem lay_next (b : Dk.Bs) (n k i : Nat) (l : Dk.Bs) (y : UInt8) (hb : b.length = 32 * n) (hk : k < n) (hl : l.length ≤ 32) (hi : i < 32) (hy : (Dk.fill l)[i]? = some y) : Dk.lay b k l (i + 1) = (Dk.lay b k l i).set (32 * k + i) y := by
  have hlen : (Dk.lay b k l i).length = b.length := Dk.lay_len hb hk (by omega)
  apply List.ext_getElem?
  intro p
  rw [List.getElem?_set, hlen, lay_get b n k (i + 1) l hb hk hl (by omega), lay_get b n k i l hb hk hl (by omega)]
  by_cases e : 32 * k + i = p
  · subst e
    rw [if_pos rfl, if_pos (show 32 * k + i < b.length by omega), if_neg (show ¬ 32 * k + i < 32 * k by omega), if_pos (show 32 * k + i < 32 * k + (i + 1) by omega), show 32 * k + i - 32 * k = i by omega]
    exact hy
  · rw [if_neg e]
    by_cases p1 : p < 32 * k
    · rw [if_pos p1, if_pos p1]
    · rw [if_neg p1, if_neg p1]
      by_cases p2 : p < 32 * k + i
      · rw [if_pos (show p < 32 * k + (i + 1) by omega), if_pos p2]
      · rw [if_neg (show ¬ p < 32 * k + (i + 1) by omega), if_neg p2]

theorem fill_at (l : Dk.Bs) (hl : l.length ≤ 32) (i : Nat) (hi : i < 32) : (Dk.fill l)[i]? = some (if i < l.length then l.getD i 0 else 0) := by
  rw [fill_eq]
  by_cases h : i < l.length
  · rw [if_pos h, List.getElem?_append_left h, List.getD_eq_getElem?_getD, List.getElem?_eq_getElem h]; rfl
  · rw [if_neg h, List.getElem?_append_right (by omega), List.getElem?_replicate, if_pos (by omega)]

theorem fill_old (l : Dk.Bs) (hl : l.length ≤ 32) (i : Nat) (hi : i < l.length) (y : UInt8) (hy : l[i]? = some y) : (Dk.fill l)[i]? = some y := by
  rw [fill_at l hl i (by omega), if_pos hi, List.getD_eq_getElem?_getD, hy]; rfl
theorem fill_new (l : Dk.Bs) (hl : l.length ≤ 32) (i : Nat) (h32 : i < 32) (hi : ¬ i < l.length) : (Dk.fill l)[i]? = some 0 := by
  rw [fill_at l hl i h32, if_neg hi]

/-- the bytes are laid, one by one -/
def LayPost (w : World) (g s n : Nat) (d : Dk.D) (q : Int) (e : Ending) (w' : World) : Prop := e = .returned (.int .i64 q) ∧ RDiskAt w' g s n d ∧ Kept (Two g s) w w'

theorem burn_zero (d : Dk.D) (h : d.fuse = 0) : burn d = 0 := by unfold burn; omega
theorem burn_ne (d : Dk.D) (h : ¬ d.fuse = 0) : (burn d == 0) = false := beq_eq_false_iff_ne.2 (by unfold burn; omega)
theorem burn_pos (d : Dk.D) (h : 0 < d.fuse) : burn d = d.fuse := by unfold burn; omega
theorem burn_neg (d : Dk.D) (h : d.fuse < 0) : burn d = -1 := by unfold burn; omega

set_option maxHeartbeats 2000000 in
set_option maxRecDepth 100000 in
theorem rwrite_any (g s n : Nat) (d : Dk.D) (k : Int) (A : Option Addr) (m c : Nat) (l : Dk.Bs) (w : World) (h : RDiskAt w g s n d) (hw : d.writes ≤ 1000000) (hm : l.length = m) (hmx : m ≤ maxLen) (hb : BytesIn (Two g s) w A l) :
    Calls Try.prog 37 #[.pointer (some ⟨g, 0, none⟩), .int .i64 k, .slice A m c] w fun e w' => LayPost w g s n (Dk.wstate n d k l) (Dk.wcode n d k l) e w' := by
  unfold maxLen at hmx
  have hn1 := h.n1
  have c0 := h.c0
  obtain ⟨L, hL⟩ : ∃ L, 32 * n = L := ⟨_, rfl⟩
  rw [hL] at c0
  have hdiv : (L : Int) / 32 = (n : Int) := by omega
  by_cases e1 : Dk.has n k = false
  · have HC : Hid (Dk.wcode n d k l = 5) := by unfold Hid Dk.wcode; rw [if_pos e1]
    have HS : Hid (Dk.wstate n d k l = d) := by unfold Hid Dk.wstate; rw [if_pos e1]
    have hno : ¬ (0 ≤ k ∧ k < n) := fun e => by rw [Dk.has_iff.2 e] at e1; cases e1
    have H := Lib.hid h
    by_cases h1 : k < 0
    · have d1 : decide (k < 0) = true := decide_eq_true h1
      clear h hb hm hw e1 hL hno
      go_enter Try.func37, Try.ntmps37
      go_wp2
      go_ret
      exact ⟨by rw [HC.out]; rfl, by rw [HS.out]; exact H.out, Kept.refl _ _⟩
    · have d1 : decide (k < 0) = false := decide_eq_false h1
      have d2 : decide ((n : Int) ≤ k) = true := decide_eq_true (by omega)
      clear h hb hm hw e1 hL hno
      go_enter Try.func37, Try.ntmps37
      go_wp2
      go_ret
      exact ⟨by rw [HC.out]; rfl, by rw [HS.out]; exact H.out, Kept.refl _ _⟩
  have e1' := bool_of_ne_false e1
  obtain ⟨k0, k1⟩ := Dk.has_iff.1 e1'
  obtain ⟨j, rfl⟩ := Int.eq_ofNat_of_zero_le k0
  have d1 : decide ((j : Int) < 0) = false := decide_eq_false (by omega)
  have d2 : decide ((n : Int) ≤ (j : Int)) = false := decide_eq_false (by omega)
  have d2' : decide (n ≤ j) = false := decide_eq_false (by omega)
  by_cases e2 : 32 < m
  · have HC : Hid (Dk.wcode n d j l = 1) := by unfold Hid Dk.wcode; rw [if_neg e1, if_pos (by omega)]
    have HS : Hid (Dk.wstate n d j l = d) := by unfold Hid Dk.wstate; rw [if_neg e1, if_pos (by omega)]
    have H := Lib.hid h
    have d3 : decide ((32 : Int) < (m : Int)) = true := decide_eq_true (by omega)
    clear h hb hm hw e1 e1' e2 hL
    go_enter Try.func37, Try.ntmps37
    go_wp2
    go_ret
    exact ⟨by rw [HC.out]; rfl, by rw [HS.out]; exact H.out, Kept.refl _ _⟩
  have d3 : decide ((32 : Int) < (m : Int)) = false := decide_eq_false (by omega)
  have c1 := h.c1
  by_cases e3 : d.up = false
  · have HC : Hid (Dk.wcode n d j l = 7) := by unfold Hid Dk.wcode; rw [if_neg e1, if_neg (by omega), if_pos e3]
    have HS : Hid (Dk.wstate n d j l = d) := by unfold Hid Dk.wstate; rw [if_neg e1, if_neg (by omega), if_pos e3]
    have H := Lib.hid h
    rw [e3] at c1
    clear h hb hm hw e1 e1' e2 e3 hL
    go_enter Try.func37, Try.ntmps37
    go_wp2
    go_ret
    exact ⟨by rw [HC.out]; rfl, by rw [HS.out]; exact H.out, Kept.refl _ _⟩
  rw [bool_of_ne_false e3] at c1
  have c2 := h.c2
  have c3 := h.c3
  have c4 := h.c4
  have f1 := h.fz 1
  have f2 := h.fz 2
  have f4 := h.fz 4
  have G := h.good
  have HLEN := Lib.hid hm
  have HB := Lib.hid hb
  have HL32 : Hid (l.length ≤ 32) := by unfold Hid; omega
  have HBL := Lib.hid G.len
  have HN : Hid (g ≠ s) := h.ne
  by_cases e4 : d.fuse = 0
  · have HC : Hid (Dk.wcode n d j l = 7) := by unfold Hid Dk.wcode; rw [if_neg e1, if_neg (by omega), if_neg e3, if_pos e4]
    have HS : Hid (Dk.wstate n d j l = { d with b := Dk.lay d.b j l d.torn.toNat, up := false }) := by unfold Hid Dk.wstate; rw [if_neg e1, if_neg (by omega), if_neg e3, if_pos e4]; rfl
    obtain ⟨f, hf⟩ : ∃ f : Nat, d.torn = (f : Int) := ⟨d.torn.toNat, by have := G.t0; omega⟩
    have hf32 : f ≤ 32 := by have := G.t1; omega
    rw [burn_zero d e4] at c2
    obtain ⟨d1, hd1⟩ : ∃ d1 : Dk.D, d1 = { d with up := false } := ⟨_, rfl⟩
    have HD1 : Hid (RDiskAt (w.setCell ⟨g, 1, none⟩ (.bool true)) g s n { d1 with b := Dk.lay d.b j l 0 }) := by
      unfold Hid
      rw [Dk.lay_zero, hd1]
      exact h.set 1 _ rfl rfl ⟨G.len, G.t0, G.t1, G.f0, G.f1, G.w0⟩
    have HK1 : Hid (Kept (Two g s) w (w.setCell ⟨g, 1, none⟩ (.bool true))) := kept_set g s 1 _
    have HS' : Hid (Dk.wstate n d j l = { d1 with b := Dk.lay d.b j l f }) := by unfold Hid; rw [HS.out, hd1, hf, Int.toNat_natCast]
    clear HS
    have HS := Lib.hid HS'.out
    clear HS'
    rw [hf] at c3
    have HL := Lib.hid hL
    clear h hb hm hw e1 e1' e2 e3 e4 hL hf G hd1
    go_enter Try.func37, Try.ntmps37
    go_wp2
    generalize w.setCell ⟨g, 1, none⟩ (.bool true) = W0 at *
    go_loopg [9] f (fun gk s9 W => ∃ (i : Nat), i + gk = f ∧ s9 = .int .i64 i ∧ Hid (RDiskAt W g s n { d1 with b := Dk.lay d.b j l i }) ∧ Hid (Kept (Two g s) w W))
    case atStart => exact ⟨0, by omega, rfl, HD1.out, HK1.out⟩
    case round =>
      clear HD1 HK1
      obtain ⟨i, hig, rfl, HD, HK⟩ := hrel
      by_cases hlt : i < f
      · obtain ⟨gk, rfl⟩ : ∃ i, gk = i + 1 := ⟨gk - 1, by omega⟩
        have r0 := HD.out.c0
        rw [HL.out] at r0
        have ht : (32 * (j : Int) + (i : Int)).toNat = 32 * j + i := by omega
        have hib : (32 * (j : Int) + (i : Int)) < (L : Int) := by have := HL.out; omega
        have hia : 0 ≤ (32 * (j : Int) + (i : Int)) := by omega
        obtain ⟨ob, hob⟩ := some_at (Dk.lay d.b j l i) (32 * j + i) (by rw [Dk.lay_len HBL.out (by omega) (by omega), HBL.out]; omega)
        have hcell := HD.out.byte hob
        have hfz := HD.out.fzs (32 * j + i)
        have HNX := Lib.hid (fun y => lay_next d.b n j i l y HBL.out (by omega) HL32.out (by omega))
        have HST := Lib.hid (fun y => HD.out.setByte (32 * j + i) y)
        have HKT : Hid (∀ u, Kept (Two g s) w (wr.setCell ⟨s, 32 * j + i, none⟩ u)) := fun u => HK.out.setCell (p := ⟨s, 32 * j + i, none⟩) (.inl (.inr rfl)) u
        clear hob
        by_cases him : i < m
        · obtain ⟨y, hy⟩ := some_at l i (by rw [HLEN.out]; exact him)
          obtain ⟨ad, rfl, _, _, hsrc⟩ := BytesIn.at_ (CellsIn.keep HB.out HK.out) hy
          have HNY := Lib.hid (HNX.out y (fill_old l HL32.out i (by rw [HLEN.out]; exact him) y hy))
          have b1 : decide ((i : Int) < (m : Int)) = true := decide_eq_true (by omega)
          have b2 : decide (i < m) = true := decide_eq_true him
          clear hy
          go_wp2
          go_roundg gk
          case measure => omega
          case rel =>
            refine ⟨i + 1, by omega, by first | rfl | go_num, ?_, HKT.out _⟩
            show RDiskAt _ g s n _
            rw [HNY.out]
            exact HST.out y
        · have HNY := Lib.hid (HNX.out 0 (fill_new l HL32.out i (by omega) (by rw [HLEN.out]; exact him)))
          have b1 : decide ((i : Int) < (m : Int)) = false := decide_eq_false (by omega)
          have b2 : decide (i < m) = false := decide_eq_false him
          go_wp2
          go_roundg gk
          case measure => omega
          case rel =>
            refine ⟨i + 1, by omega, by first | rfl | go_num, ?_, HKT.out _⟩
            show RDiskAt _ g s n _
            rw [HNY.out]
            exact HST.out 0
      · have hi : i = f := by omega
        subst hi
        go_wp2
        go_ret
        refine ⟨by rw [HC.out]; rfl, ?_, HK.out⟩
        rw [HS.out]
        exact HD.out
  · have HC : Hid (Dk.wcode n d j l = 0) := by unfold Hid Dk.wcode; rw [if_neg e1, if_neg (by omega), if_neg e3, if_neg e4]
    have hs0 : Dk.wstate n d j l = { d with b := Dk.lay d.b j l 32, writes := d.writes + 1, fuse := if 0 < d.fuse then d.fuse - 1 else d.fuse } := by unfold Dk.wstate; rw [if_neg e1, if_neg (by omega), if_neg e3, if_neg e4]; rfl
    have w0 := G.w0
    have g0 := G.f0
    have g1 := G.f1
    have HL := Lib.hid hL
    obtain ⟨f, hf⟩ : ∃ f : Nat, f = 32 := ⟨_, rfl⟩
    have hf32 : f ≤ 32 := by omega
    by_cases e5 : 0 < d.fuse
    · rw [burn_pos d e5] at c2
      rw [if_pos e5] at hs0
      have b0 : (d.fuse == 0) = false := beq_eq_false_iff_ne.2 e4
      have b5 : decide (0 < d.fuse) = true := decide_eq_true e5
      obtain ⟨d1, hd1⟩ : ∃ d1 : Dk.D, d1 = { d with writes := d.writes + 1, fuse := d.fuse - 1 } := ⟨_, rfl⟩
      have HS : Hid (Dk.wstate n d j l = { d1 with b := Dk.lay d.b j l f }) := by unfold Hid; rw [hs0, hd1, hf]
      have HD1 : Hid (RDiskAt ((w.setCell ⟨g, 4, none⟩ (.int .i64 (d.writes + 1))).setCell ⟨g, 2, none⟩ (.int .i64 (d.fuse - 1))) g s n { d1 with b := Dk.lay d.b j l 0 }) := by
        unfold Hid
        rw [Dk.lay_zero, hd1]
        have h2 : RDiskAt (w.setCell ⟨g, 4, none⟩ (.int .i64 (d.writes + 1))) g s n { d with writes := d.writes + 1 } := h.set 4 _ rfl rfl ⟨G.len, G.t0, G.t1, G.f0, G.f1, by simp only; omega⟩
        refine h2.set 2 _ ?_ rfl ⟨G.len, G.t0, G.t1, by simp only; omega, by simp only; omega, by simp only; omega⟩
        have hbu : burn { d with b := d.b, writes := d.writes + 1, fuse := d.fuse - 1 } = d.fuse - 1 := by unfold burn; simp only; omega
        rw [hbu]
        rfl
      have HK1 : Hid (Kept (Two g s) w ((w.setCell ⟨g, 4, none⟩ (.int .i64 (d.writes + 1))).setCell ⟨g, 2, none⟩ (.int .i64 (d.fuse - 1)))) := (kept_set g s 4 _).trans (kept_set g s 2 _)
      clear h hb hm e1 e1' e2 e3 e4 hL G hd1 hs0
      subst hf
      go_enter Try.func37, Try.ntmps37
      go_wp2
      generalize (w.setCell ⟨g, 4, none⟩ (.int .i64 (d.writes + 1))).setCell ⟨g, 2, none⟩ (.int .i64 (d.fuse - 1)) = W0 at *
      go_loopg [9] 32 (fun gk s9 W => ∃ (i : Nat), i + gk = 32 ∧ s9 = .int .i64 i ∧ Hid (RDiskAt W g s n { d1 with b := Dk.lay d.b j l i }) ∧ Hid (Kept (Two g s) w W))
      case atStart => exact ⟨0, by omega, rfl, HD1.out, HK1.out⟩
      case round =>
        clear HD1 HK1
        obtain ⟨i, hig, rfl, HD, HK⟩ := hrel
        by_cases hlt : i < 32
        · obtain ⟨gk, rfl⟩ : ∃ i, gk = i + 1 := ⟨gk - 1, by omega⟩
          have r0 := HD.out.c0
          rw [HL.out] at r0
          have ht : (32 * (j : Int) + (i : Int)).toNat = 32 * j + i := by omega
          have hib : (32 * (j : Int) + (i : Int)) < (L : Int) := by have := HL.out; omega
          have hia : 0 ≤ (32 * (j : Int) + (i : Int)) := by omega
          obtain ⟨ob, hob⟩ := some_at (Dk.lay d.b j l i) (32 * j + i) (by rw [Dk.lay_len HBL.out (by omega) (by omega), HBL.out]; omega)
          have hcell := HD.out.byte hob
          have hfz := HD.out.fzs (32 * j + i)
          have HNX := Lib.hid (fun y => lay_next d.b n j i l y HBL.out (by omega) HL32.out (by omega))
          have HST := Lib.hid (fun y => HD.out.setByte (32 * j + i) y)
          have HKT : Hid (∀ u, Kept (Two g s) w (wr.setCell ⟨s, 32 * j + i, none⟩ u)) := fun u => HK.out.setCell (p := ⟨s, 32 * j + i, none⟩) (.inl (.inr rfl)) u
          clear hob
          by_cases him : i < m
          · obtain ⟨y, hy⟩ := some_at l i (by rw [HLEN.out]; exact him)
            obtain ⟨ad, rfl, _, _, hsrc⟩ := BytesIn.at_ (CellsIn.keep HB.out HK.out) hy
            have HNY := Lib.hid (HNX.out y (fill_old l HL32.out i (by rw [HLEN.out]; exact him) y hy))
            have b1 : decide ((i : Int) < (m : Int)) = true := decide_eq_true (by omega)
            have b2 : decide (i < m) = true := decide_eq_true him
            clear hy
            go_wp2
            go_roundg gk
            case measure => omega
            case rel =>
              refine ⟨i + 1, by omega, by first | rfl | go_num, ?_, HKT.out _⟩
              show RDiskAt _ g s n _
              rw [HNY.out]
              exact HST.out y
          · have HNY := Lib.hid (HNX.out 0 (fill_new l HL32.out i (by omega) (by rw [HLEN.out]; exact him)))
            have b1 : decide ((i : Int) < (m : Int)) = false := decide_eq_false (by omega)
            have b2 : decide (i < m) = false := decide_eq_false him
            go_wp2
            go_roundg gk
            case measure => omega
            case rel =>
              refine ⟨i + 1, by omega, by first | rfl | go_num, ?_, HKT.out _⟩
              show RDiskAt _ g s n _
              rw [HNY.out]
              exact HST.out 0
        · have hi : i = 32 := by omega
          subst hi
          go_wp2
          go_ret
          refine ⟨by rw [HC.out]; rfl, ?_, HK.out⟩
          rw [HS.out]
          exact HD.out
    · rw [burn_neg d (by omega)] at c2
      rw [if_neg e5] at hs0
      obtain ⟨d1, hd1⟩ : ∃ d1 : Dk.D, d1 = { d with writes := d.writes + 1 } := ⟨_, rfl⟩
      have HS : Hid (Dk.wstate n d j l = { d1 with b := Dk.lay d.b j l f }) := by unfold Hid; rw [hs0, hd1, hf]
      have HD1 : Hid (RDiskAt (w.setCell ⟨g, 4, none⟩ (.int .i64 (d.writes + 1))) g s n { d1 with b := Dk.lay d.b j l 0 }) := by
        unfold Hid
        rw [Dk.lay_zero, hd1]
        exact h.set 4 _ rfl rfl ⟨G.len, G.t0, G.t1, G.f0, G.f1, by simp only; omega⟩
      have HK1 : Hid (Kept (Two g s) w (w.setCell ⟨g, 4, none⟩ (.int .i64 (d.writes + 1)))) := kept_set g s 4 _
      clear h hb hm e1 e1' e2 e3 e4 hL G hd1 hs0
      subst hf
      go_enter Try.func37, Try.ntmps37
      go_wp2
      generalize w.setCell ⟨g, 4, none⟩ (.int .i64 (d.writes + 1)) = W0 at *
      go_loopg [9] 32 (fun gk s9 W => ∃ (i : Nat), i + gk = 32 ∧ s9 = .int .i64 i ∧ Hid (RDiskAt W g s n { d1 with b := Dk.lay d.b j l i }) ∧ Hid (Kept (Two g s) w W))
      case atStart => exact ⟨0, by omega, rfl, HD1.out, HK1.out⟩
      case round =>
        clear HD1 HK1
        obtain ⟨i, hig, rfl, HD, HK⟩ := hrel
        by_cases hlt : i < 32
        · obtain ⟨gk, rfl⟩ : ∃ i, gk = i + 1 := ⟨gk - 1, by omega⟩
          have r0 := HD.out.c0
          rw [HL.out] at r0
          have ht : (32 * (j : Int) + (i : Int)).toNat = 32 * j + i := by omega
          have hib : (32 * (j : Int) + (i : Int)) < (L : Int) := by have := HL.out; omega
          have hia : 0 ≤ (32 * (j : Int) + (i : Int)) := by omega
          obtain ⟨ob, hob⟩ := some_at (Dk.lay d.b j l i) (32 * j + i) (by rw [Dk.lay_len HBL.out (by omega) (by omega), HBL.out]; omega)
          have hcell := HD.out.byte hob
          have hfz := HD.out.fzs (32 * j + i)
          have HNX := Lib.hid (fun y => lay_next d.b n j i l y HBL.out (by omega) HL32.out (by omega))
          have HST := Lib.hid (fun y => HD.out.setByte (32 * j + i) y)
          have HKT : Hid (∀ u, Kept (Two g s) w (wr.setCell ⟨s, 32 * j + i, none⟩ u)) := fun u => HK.out.setCell (p := ⟨s, 32 * j + i, none⟩) (.inl (.inr rfl)) u
          clear hob
          by_cases him : i < m
          · obtain ⟨y, hy⟩ := some_at l i (by rw [HLEN.out]; exact him)
            obtain ⟨ad, rfl, _, _, hsrc⟩ := BytesIn.at_ (CellsIn.keep HB.out HK.out) hy
            have HNY := Lib.hid (HNX.out y (fill_old l HL32.out i (by rw [HLEN.out]; exact him) y hy))
            have b1 : decide ((i : Int) < (m : Int)) = true := decide_eq_true (by omega)
            have b2 : decide (i < m) = true := decide_eq_true him
            clear hy
            go_wp2
            go_roundg gk
            case measure => omega
            case rel =>
              refine ⟨i + 1, by omega, by first | rfl | go_num, ?_, HKT.out _⟩
              show RDiskAt _ g s n _
              rw [HNY.out]
              exact HST.out y
          · have HNY := Lib.hid (HNX.out 0 (fill_new l HL32.out i (by omega) (by rw [HLEN.out]; exact him)))
            have b1 : decide ((i : Int) < (m : Int)) = false := decide_eq_false (by omega)
            have b2 : decide (i < m) = false := decide_eq_false him
            go_wp2
            go_roundg gk
            case measure => omega
            case rel =>
              refine ⟨i + 1, by omega, by first | rfl | go_num, ?_, HKT.out _⟩
              show RDiskAt _ g s n _
              rw [HNY.out]
              exact HST.out 0
        · have hi : i = 32 := by omega
          subst hi
          go_wp2
          go_ret
          refine ⟨by rw [HC.out]; rfl, ?_, HK.out⟩
          rw [HS.out]
          exact HD.out

end Go.Proofs.Ytoocifoglhhnmaa
