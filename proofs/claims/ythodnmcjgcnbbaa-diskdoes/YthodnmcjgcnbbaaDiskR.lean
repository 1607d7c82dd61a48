/- Contracts: the document's answer for a disk: New, Fuse, Crash, Turn, Read, Write. -/
import Derived.Test.YthodnmcjgcnbbaaDiskApp
import Derived.BigRegion
namespace Go.Proofs.Ythodnmcjgcnbbaa
open Go.RowKit

/-- the fuse as the document's answer keeps it -/
def burn (d : Dk.D) : Int := max d.fuse (-1)

/-- A disk of the document's answer: its struct lies in block g, its bytes in block s. -/
structure RDiskAt (w : World) (g s n : Nat) (d : Dk.D) : Prop where
  top : w.heap[g]? = some (.cells #[.slice (some ⟨s, 0, none⟩) (32 * n) (32 * n), .bool (!d.up), .int .i64 (burn d), .int .i64 d.torn, .int .i64 d.writes] 44 (0, 0))
  row : w.heap[s]? = some (.cells (d.b.map bv).toArray 5 (0, 0))
  good : Dk.Good n d
  n0 : 2 ≤ n
  n1 : n ≤ 4096

theorem RDiskAt.ne {w : World} {g s n : Nat} {d : Dk.D} (h : RDiskAt w g s n d) : g ≠ s := blocks_ne h.top h.row (by decide)
theorem RDiskAt.ltg {w : World} {g s n : Nat} {d : Dk.D} (h : RDiskAt w g s n d) : g < w.heap.size := (Array.getElem?_eq_some_iff.1 h.top).1
theorem RDiskAt.lts {w : World} {g s n : Nat} {d : Dk.D} (h : RDiskAt w g s n d) : s < w.heap.size := (Array.getElem?_eq_some_iff.1 h.row).1
theorem RDiskAt.keep {F : Nat → Prop} {w w' : World} {g s n : Nat} {d : Dk.D} (h : RDiskAt w g s n d) (hk : Kept F w w') (hg : ¬ F g) (hs : ¬ F s) : RDiskAt w' g s n d :=
  ⟨(hk.block g h.ltg hg).trans h.top, (hk.block s h.lts hs).trans h.row, h.good, h.n0, h.n1⟩
theorem RDiskAt.c0 {w : World} {g s n : Nat} {d : Dk.D} (h : RDiskAt w g s n d) : w.cell? ⟨g, 0, none⟩ = some (.slice (some ⟨s, 0, none⟩) (32 * n) (32 * n)) := by rw [cell_of_row w g 0 _ _ _ h.top]; rfl
theorem RDiskAt.c1 {w : World} {g s n : Nat} {d : Dk.D} (h : RDiskAt w g s n d) : w.cell? ⟨g, 1, none⟩ = some (.bool (!d.up)) := by rw [cell_of_row w g 1 _ _ _ h.top]; rfl
theorem RDiskAt.c2 {w : World} {g s n : Nat} {d : Dk.D} (h : RDiskAt w g s n d) : w.cell? ⟨g, 2, none⟩ = some (.int .i64 (burn d)) := by rw [cell_of_row w g 2 _ _ _ h.top]; rfl
theorem RDiskAt.c3 {w : World} {g s n : Nat} {d : Dk.D} (h : RDiskAt w g s n d) : w.cell? ⟨g, 3, none⟩ = some (.int .i64 d.torn) := by rw [cell_of_row w g 3 _ _ _ h.top]; rfl
theorem RDiskAt.c4 {w : World} {g s n : Nat} {d : Dk.D} (h : RDiskAt w g s n d) : w.cell? ⟨g, 4, none⟩ = some (.int .i64 d.writes) := by rw [cell_of_row w g 4 _ _ _ h.top]; rfl
theorem RDiskAt.fz {w : World} {g s n : Nat} {d : Dk.D} (h : RDiskAt w g s n d) (k : Nat) : w.frozen? ⟨g, k, none⟩ = false := by unfold World.frozen?; rw [h.top]; simp
theorem RDiskAt.fzs {w : World} {g s n : Nat} {d : Dk.D} (h : RDiskAt w g s n d) (k : Nat) : w.frozen? ⟨s, k, none⟩ = false := by unfold World.frozen?; rw [h.row]; simp
theorem RDiskAt.byte {w : World} {g s n : Nat} {d : Dk.D} (h : RDiskAt w g s n d) {k : Nat} {b : UInt8} (hb : d.b[k]? = some b) : w.cell? ⟨s, k, none⟩ = some (.int .u8 (b.toNat : Int)) := by
  rw [cell_of_row w s k _ _ _ h.row]
  simp [hb, bv]

theorem RDiskAt.set {w : World} {g s n : Nat} {d d' : Dk.D} (h : RDiskAt w g s n d) (k : Nat) (u : Value)
    (he : (#[.slice (some ⟨s, 0, none⟩) (32 * n) (32 * n), .bool (!d.up), .int .i64 (burn d), .int .i64 d.torn, .int .i64 d.writes] : Array Value).setIfInBounds k u = #[.slice (some ⟨s, 0, none⟩) (32 * n) (32 * n), .bool (!d'.up), .int .i64 (burn d'), .int .i64 d'.torn, .int .i64 d'.writes])
    (hb : d'.b = d.b) (hg : Dk.Good n d') : RDiskAt (w.setCell ⟨g, k, none⟩ u) g s n d' := by
  refine ⟨?_, ?_, hg, h.n0, h.n1⟩
  · rw [setCell_eq_setRow w g k _ _ _ u h.top, ← he]
    exact setRow_heap w g _ _ _ _ h.top
  · rw [Below.heap_setCell _ _ _ _ (Ne.symm h.ne), hb]
    exact h.row

theorem RDiskAt.setByte {w : World} {g s n : Nat} {d : Dk.D} (h : RDiskAt w g s n d) (k : Nat) (y : UInt8) : RDiskAt (w.setCell ⟨s, k, none⟩ (.int .u8 (y.toNat : Int))) g s n { d with b := d.b.set k y } := by
  refine ⟨?_, ?_, ⟨by simpa using h.good.len, h.good.t0, h.good.t1, h.good.f0, h.good.f1, h.good.w0⟩, h.n0, h.n1⟩
  · rw [Below.heap_setCell _ _ _ _ h.ne]
    exact h.top
  · rw [setCell_eq_setRow w s k _ _ _ _ h.row, setRow_heap w s _ _ _ _ h.row]
    simp [List.map_set, bv]

set_option maxHeartbeats 1000000 in
set_option maxRecDepth 100000 in
theorem rnew_ok (n : Nat) (w : World) (h0 : 2 ≤ n) (h1 : n ≤ 4096) :
    Calls Try.prog 9 #[.int .i64 n] w fun e w' => e = .returned (.tuple #[.pointer (some ⟨w.heap.size + 1, 0, none⟩), .int .i64 0]) ∧ RDiskAt w' (w.heap.size + 1) w.heap.size n (Dk.fresh n) ∧ Below w.heap.size w w' := by
  have hmk : ∀ W : World, (Instr.makeSlice 32 (.int .i64 (32 * (n : Int))) (.int .i64 (32 * (n : Int)))).run Try.prog W = .ok (.slice (some ⟨W.heap.size, 0, none⟩) (32 * n) (32 * n)) (W.alloc (.cells ((List.replicate (32 * n) (0 : UInt8)).map bv).toArray 5)) := fun W => by
    have := make_bytes (32 * n) (by omega) W
    rw [Int.natCast_mul] at this
    exact this
  have HZ : Hid (((Dk.fresh n).b.map bv).toArray = ((List.replicate (32 * n) (0 : UInt8)).map bv).toArray) := rfl
  generalize ((List.replicate (32 * n) (0 : UInt8)).map bv).toArray = Z at *
  go_enter Try.func9, Try.ntmps9
  go_wp2
  go_ret2
  refine ⟨rfl, ⟨?_, ?_, Dk.fresh_good n, h0, h1⟩, ((Below.refl _ _).alloc (Nat.le_refl _) _).alloc (by simp) _⟩
  · have := heap_alloc_new (w.alloc (.cells Z 5)) (.cells #[.slice (some ⟨w.heap.size, 0, none⟩) (32 * n) (32 * n), .bool false, .int .i64 (-1), .int .i64 0, .int .i64 0] 44)
    rw [show (w.alloc (.cells Z 5)).heap.size = w.heap.size + 1 by simp] at this
    exact this
  · rw [Below.heap_alloc _ _ _ (by simp), HZ.out]
    exact heap_alloc_new w _

set_option maxHeartbeats 400000 in
theorem rnew_no (n : Int) (w : World) (h : n < 2 ∨ 4096 < n) :
    Calls Try.prog 9 #[.int .i64 n] w fun e w' => e = .returned (.tuple #[.pointer none, .int .i64 1]) ∧ w = w' := by
  by_cases h1 : n < 2
  · have d1 : decide (n < 2) = true := decide_eq_true h1
    clear h
    go_enter Try.func9, Try.ntmps9
    go_wp2
    go_ret2
    exact ⟨rfl, rfl⟩
  · have d1 : decide (n < 2) = false := decide_eq_false h1
    have d2 : decide (4096 < n) = true := decide_eq_true (by omega)
    clear h
    go_enter Try.func9, Try.ntmps9
    go_wp2
    go_ret2
    exact ⟨rfl, rfl⟩

set_option maxHeartbeats 400000 in
theorem rcrash_any (g s n : Nat) (d : Dk.D) (w : World) (h : RDiskAt w g s n d) :
    Calls Try.prog 13 #[.pointer (some ⟨g, 0, none⟩)] w fun e w' => e = .returned (.tuple #[]) ∧ RDiskAt w' g s n (Dk.crash d) ∧ Kept (Two g s) w w' := by
  have c1 := h.c1
  have c2 := h.c2
  have f1 := h.fz 1
  have f2 := h.fz 2
  have h1 : RDiskAt (w.setCell ⟨g, 1, none⟩ (.bool false)) g s n { d with up := true } := h.set 1 _ rfl rfl ⟨h.good.len, h.good.t0, h.good.t1, h.good.f0, h.good.f1, h.good.w0⟩
  have h2 : RDiskAt ((w.setCell ⟨g, 1, none⟩ (.bool false)).setCell ⟨g, 2, none⟩ (.int .i64 (-1))) g s n (Dk.crash d) := h1.set 2 _ rfl rfl (Dk.crash_good h.good)
  have HD := Lib.hid h2
  clear h h1 h2
  generalize burn d = bu at *
  generalize (!d.up) = ru at *
  go_enter Try.func13, Try.ntmps13
  go_wp2
  go_end0
  exact ⟨rfl, HD.out, (kept_set g s 1 _).trans (kept_set g s 2 _)⟩

set_option maxHeartbeats 400000 in
theorem rfuse_any (g s n : Nat) (d : Dk.D) (a c : Int) (w : World) (h : RDiskAt w g s n d) (ha : -9223372036854775808 ≤ a) (ha' : a ≤ 9223372036854775807) :
    Calls Try.prog 12 #[.pointer (some ⟨g, 0, none⟩), .int .i64 a, .int .i64 c] w fun e w' => e = .returned (.tuple #[]) ∧ RDiskAt w' g s n (Dk.fuseTo d a c) ∧ Kept (Two g s) w w' := by
  have c2 := h.c2
  have c3 := h.c3
  have f1 := h.fz 2
  have f2 := h.fz 3
  have h2 : ∀ y x : Int, y = max a (-1) → x = min (max c 0) 32 → RDiskAt ((w.setCell ⟨g, 2, none⟩ (.int .i64 y)).setCell ⟨g, 3, none⟩ (.int .i64 x)) g s n (Dk.fuseTo d a c) := fun y x hy hx => by
    subst hx hy
    have h1 : RDiskAt (w.setCell ⟨g, 2, none⟩ (.int .i64 (max a (-1)))) g s n { d with fuse := a } := h.set 2 _ rfl rfl ⟨h.good.len, h.good.t0, h.good.t1, ha, ha', h.good.w0⟩
    exact h1.set 3 _ rfl rfl (Dk.fuse_good h.good a c ha ha')
  have HD := Lib.hid h2
  clear h h2
  generalize burn d = bu at *
  go_enter Try.func12, Try.ntmps12
  go_wp2
  all_goals
    go_end0
    exact ⟨rfl, HD.out _ _ (by omega) (by omega), (kept_set g s 2 _).trans (kept_set g s 3 _)⟩

set_option maxHeartbeats 1000000 in
set_option maxRecDepth 100000 in
theorem rturn_any (g s n : Nat) (d : Dk.D) (k : Int) (y : UInt8) (w : World) (h : RDiskAt w g s n d) (hk : k ≤ 9223372036854775807) :
    Calls Try.prog 14 #[.pointer (some ⟨g, 0, none⟩), .int .i64 k, .int .u8 (y.toNat : Int)] w fun e w' => e = .returned (.int .i64 (Dk.tcode n k)) ∧ RDiskAt w' g s n (Dk.tstate n d k y) ∧ Kept (Two g s) w w' := by
  have hn1 := h.n1
  have c0 := h.c0
  obtain ⟨L, hL⟩ : ∃ L, 32 * n = L := ⟨_, rfl⟩
  rw [hL] at c0
  by_cases h1 : k < 0
  · have HC : Hid (Dk.tcode n k = 5) := by unfold Hid Dk.tcode; rw [if_neg (by omega)]
    have HS : Hid (Dk.tstate n d k y = d) := by unfold Hid Dk.tstate; rw [if_neg (by omega)]
    have d1 : decide (k < 0) = true := decide_eq_true h1
    have H := Lib.hid h
    clear h hL
    go_enter Try.func14, Try.ntmps14
    go_wp2
    go_ret
    exact ⟨by rw [HC.out]; rfl, by rw [HS.out]; exact H.out, Kept.refl _ _⟩
  obtain ⟨j, rfl⟩ := Int.eq_ofNat_of_zero_le (show 0 ≤ k by omega)
  have d1 : decide ((j : Int) < 0) = false := decide_eq_false (by omega)
  by_cases h2 : j < L
  · have HC : Hid (Dk.tcode n j = 0) := by unfold Hid Dk.tcode; rw [if_pos (by omega)]
    obtain ⟨b, hb⟩ := some_at d.b j (by rw [h.good.len]; omega)
    have e : Dk.tstate n d j y = { d with b := d.b.set j (b ^^^ y) } := by
      unfold Dk.tstate
      rw [if_pos ⟨by omega, by omega⟩, Int.toNat_natCast, List.getD_eq_getElem?_getD, hb]; rfl
    have ht := h.setByte j (b ^^^ y)
    rw [← e, UInt8.toNat_xor] at ht
    have HT := Lib.hid ht
    have hcell := h.byte hb
    have hfz := h.fzs j
    have hx := xor_u8 b y
    have i1 : (0 : Int) ≤ (j : Int) := by omega
    have i2 : (j : Int) < (L : Int) := by omega
    have d2 : decide ((L : Int) ≤ (j : Int)) = false := decide_eq_false (by omega)
    have d3 : decide (L ≤ j) = false := decide_eq_false (by omega)
    clear h hb ht e hL
    go_enter Try.func14, Try.ntmps14
    go_wp2
    go_region
    go_wp2
    go_ret
    exact ⟨by rw [HC.out]; rfl, HT.out.keep (F := No) (Kept.refl No _).drew id id, ((Kept.refl _ _).setCell (p := ⟨s, j, none⟩) (.inl (.inr rfl)) _).drew⟩
  · have HC : Hid (Dk.tcode n j = 5) := by unfold Hid Dk.tcode; rw [if_neg (by omega)]
    have HS : Hid (Dk.tstate n d j y = d) := by unfold Hid Dk.tstate; rw [if_neg (by omega)]
    have H := Lib.hid h
    have d2 : decide ((L : Int) ≤ (j : Int)) = true := decide_eq_true (by omega)
    have d3 : decide (L ≤ j) = true := decide_eq_true (by omega)
    clear h hL
    go_enter Try.func14, Try.ntmps14
    go_wp2
    go_ret
    exact ⟨by rw [HC.out]; rfl, by rw [HS.out]; exact H.out, Kept.refl _ _⟩

end Go.Proofs.Ythodnmcjgcnbbaa
