/- Contracts: package disk's Write, Read, Turn, New. -/
import Derived.Test.YtoocifoglhhnmaaDiskA
import Derived.Laws.MakeOwn
import Derived.BigRegion
namespace Go.Proofs.Ytoocifoglhhnmaa
open Go.RowKit

theorem bool_of_ne_false {b : Bool} (h : ¬ b = false) : b = true := by cases b <;> simp_all

set_option maxHeartbeats 1000000 in
set_option maxRecDepth 100000 in
theorem write_any (g s n : Nat) (d : Dk.D) (k : Int) (A : Option Addr) (m c : Nat) (l : Dk.Bs) (w : World) (h : DiskAt w g s n d) (hw : d.writes ≤ 1000000) (hm : l.length = m) (hmx : m ≤ maxLen) (hb : BytesIn (Two g s) w A l) :
    Calls Try.prog 74 #[.pointer (some ⟨g, 0, none⟩), .int .i64 k, .slice A m c] w fun e w' => e = .returned (.int .i64 (Dk.wcode n d k l)) ∧ DiskAt w' g s n (Dk.wstate n d k l) ∧ Kept (Two g s) w w' := by
  unfold maxLen at hmx
  have hhas := has_any g s n d k w h
  by_cases e1 : Dk.has n k = false
  · have HC : Hid (Dk.wcode n d k l = 5) := by unfold Hid Dk.wcode; rw [if_pos e1]
    have HS : Hid (Dk.wstate n d k l = d) := by unfold Hid Dk.wstate; rw [if_pos e1]
    rw [e1] at hhas
    have HAS := Lib.hid hhas
    have H := Lib.hid h
    clear hhas h hb hm hw e1
    go_enter Try.func74, Try.ntmps74
    go_wp2_with (go_at_call 41; refine HAS.out.mono ?_; rintro e w' ⟨rfl, rfl⟩)
    go_ret
    exact ⟨by rw [HC.out]; rfl, by rw [HS.out]; exact H.out, Kept.refl _ _⟩
  have e1' := bool_of_ne_false e1
  obtain ⟨k0, k1⟩ := Dk.has_iff.1 e1'
  obtain ⟨j, rfl⟩ := Int.eq_ofNat_of_zero_le k0
  rw [e1'] at hhas
  have HAS := Lib.hid hhas
  clear hhas
  by_cases e2 : 32 < m
  · have HC : Hid (Dk.wcode n d j l = 1) := by unfold Hid Dk.wcode; rw [if_neg e1, if_pos (by omega)]
    have HS : Hid (Dk.wstate n d j l = d) := by unfold Hid Dk.wstate; rw [if_neg e1, if_pos (by omega)]
    have H := Lib.hid h
    have d1 : decide ((32 : Int) < (m : Int)) = true := decide_eq_true (by omega)
    clear h hb hm hw e1 e1' e2
    go_enter Try.func74, Try.ntmps74
    go_wp2_with (go_at_call 41; refine HAS.out.mono ?_; rintro e w' ⟨rfl, rfl⟩)
    go_ret
    exact ⟨by rw [HC.out]; rfl, by rw [HS.out]; exact H.out, Kept.refl _ _⟩
  have d1 : decide ((32 : Int) < (m : Int)) = false := decide_eq_false (by omega)
  have c1 := h.c1
  by_cases e3 : d.up = false
  · have HC : Hid (Dk.wcode n d j l = 7) := by unfold Hid Dk.wcode; rw [if_neg e1, if_neg (by omega), if_pos e3]
    have HS : Hid (Dk.wstate n d j l = d) := by unfold Hid Dk.wstate; rw [if_neg e1, if_neg (by omega), if_pos e3]
    have H := Lib.hid h
    rw [e3] at c1
    clear h hb hm hw e1 e1' e2 e3
    go_enter Try.func74, Try.ntmps74
    go_wp2_with (go_at_call 41; refine HAS.out.mono ?_; rintro e w' ⟨rfl, rfl⟩)
    go_ret
    exact ⟨by rw [HC.out]; rfl, by rw [HS.out]; exact H.out, Kept.refl _ _⟩
  rw [bool_of_ne_false e3] at c1
  have c2 := h.c2
  by_cases e4 : d.fuse = 0
  · have HC : Hid (Dk.wcode n d j l = 7) := by unfold Hid Dk.wcode; rw [if_neg e1, if_neg (by omega), if_neg e3, if_pos e4]
    have HS : Hid (Dk.wstate n d j l = { d with b := Dk.lay d.b j l d.torn.toNat, up := false }) := by unfold Hid Dk.wstate; rw [if_neg e1, if_neg (by omega), if_neg e3, if_pos e4]; rfl
    have t0 := h.good.t0
    have t1 := h.good.t1
    have c3 := h.c3
    have HL : Hid (Calls Try.prog 78 #[.pointer (some ⟨g, 0, none⟩), .int .i64 j, .slice A m c, .int .i64 d.torn] w fun e w' => e = .returned (.tuple #[]) ∧ DiskAt w' g s n { d with b := Dk.lay d.b j l d.torn.toNat } ∧ Kept (Two g s) w w') := by
      have := lay_any g s n d j d.torn.toNat A m c l w h (by omega) (by omega) hm (by omega) hb
      rw [Int.toNat_of_nonneg t0] at this
      exact this
    rw [e4] at c2
    clear h hb hm hw e1 e1' e2 e3 e4
    go_enter Try.func74, Try.ntmps74
    go_wp2_with (first
      | (go_at_call 41; refine HAS.out.mono ?_; rintro e w' ⟨rfl, rfl⟩)
      | (go_at_call 78; refine HL.out.mono ?_; rintro e w1 ⟨rfl, h1, hk1⟩; have H1 := Lib.hid h1; have HK1 := Lib.hid hk1; have x1 := h1.c1; have x2 := h1.fz 1; clear h1 hk1))
    go_ret
    refine ⟨by rw [HC.out]; rfl, ?_, HK1.out.trans (kept_set g s 1 _)⟩
    rw [HS.out]
    exact H1.out.set 1 _ rfl rfl ⟨H1.out.good.len, H1.out.good.t0, H1.out.good.t1, H1.out.good.f0, H1.out.good.f1, H1.out.good.w0⟩
  · have HC : Hid (Dk.wcode n d j l = 0) := by unfold Hid Dk.wcode; rw [if_neg e1, if_neg (by omega), if_neg e3, if_neg e4]
    have HS : Hid (Dk.wstate n d j l = { d with b := Dk.lay d.b j l 32, writes := d.writes + 1, fuse := if 0 < d.fuse then d.fuse - 1 else d.fuse }) := by unfold Hid Dk.wstate; rw [if_neg e1, if_neg (by omega), if_neg e3, if_neg e4]; rfl
    have HL : Hid (Calls Try.prog 78 #[.pointer (some ⟨g, 0, none⟩), .int .i64 j, .slice A m c, .int .i64 32] w fun e w' => e = .returned (.tuple #[]) ∧ DiskAt w' g s n { d with b := Dk.lay d.b j l 32 } ∧ Kept (Two g s) w w') :=
      lay_any g s n d j 32 A m c l w h (by omega) (by omega) hm (by omega) hb
    have w0 := h.good.w0
    have f0 := h.good.f0
    have f1 := h.good.f1
    have d2 : (d.fuse == 0) = false := beq_eq_false_iff_ne.2 e4
    by_cases e5 : 0 < d.fuse
    · have d3 : decide ((0 : Int) < d.fuse) = true := decide_eq_true e5
      rw [if_pos e5] at HS
      clear h hb hm e1 e1' e2 e3 e4
      go_enter Try.func74, Try.ntmps74
      go_wp2_with (first
        | (go_at_call 41; refine HAS.out.mono ?_; rintro e w' ⟨rfl, rfl⟩)
        | (go_at_call 78; refine HL.out.mono ?_; rintro e w1 ⟨rfl, h1, hk1⟩; have H1 := Lib.hid h1; have HK1 := Lib.hid hk1; have x1 := h1.c4; have x2 := h1.fz 4; have x3 := h1.c2; have x4 := h1.fz 2; clear h1 hk1))
      go_ret
      refine ⟨by rw [HC.out]; rfl, ?_, (HK1.out.trans (kept_set g s 4 _)).trans (kept_set g s 2 _)⟩
      rw [HS.out]
      have G := H1.out.good
      have h2 : DiskAt (w1.setCell ⟨g, 4, none⟩ (.int .i64 (d.writes + 1))) g s n { d with b := Dk.lay d.b j l 32, writes := d.writes + 1 } := H1.out.set 4 _ rfl rfl ⟨G.len, G.t0, G.t1, G.f0, G.f1, by simp only; omega⟩
      exact h2.set 2 _ rfl rfl ⟨G.len, G.t0, G.t1, by simp only; omega, by simp only; omega, by simp only; omega⟩
    · have d3 : decide ((0 : Int) < d.fuse) = false := decide_eq_false e5
      rw [if_neg e5] at HS
      clear h hb hm e1 e1' e2 e3 e4
      go_enter Try.func74, Try.ntmps74
      go_wp2_with (first
        | (go_at_call 41; refine HAS.out.mono ?_; rintro e w' ⟨rfl, rfl⟩)
        | (go_at_call 78; refine HL.out.mono ?_; rintro e w1 ⟨rfl, h1, hk1⟩; have H1 := Lib.hid h1; have HK1 := Lib.hid hk1; have x1 := h1.c4; have x2 := h1.fz 4; have x3 := h1.c2; have x4 := h1.fz 2; clear h1 hk1))
      go_ret
      refine ⟨by rw [HC.out]; rfl, ?_, HK1.out.trans (kept_set g s 4 _)⟩
      rw [HS.out]
      have G := H1.out.good
      exact H1.out.set 4 _ rfl rfl ⟨G.len, G.t0, G.t1, G.f0, G.f1, by simp only; omega⟩

theorem made_zero (z : Array Value) (h0 : 0 < z.size) (h : ∀ i, i < z.size → z[i]! = .int .u8 0) (n : Nat) : madeCells z n = ((List.replicate n (0 : UInt8)).map bv).toArray := by
  apply Array.ext
  · simp [size_madeCells]
  · intro i h1 h2
    have : (madeCells z n)[i] = z[i % z.size]! := by simp [madeCells]
    rw [this, h _ (Nat.mod_lt _ h0)]
    simp [bv]

theorem make_bytes (n : Nat) (hn : n ≤ 200000) (w : World) : (Instr.makeSlice 38 (.int .i64 (n : Int)) (.int .i64 (n : Int))).run Try.prog w = .ok (.slice (some ⟨w.heap.size, 0, none⟩) n n) (w.alloc (.cells ((List.replicate n (0 : UInt8)).map bv).toArray 5)) := by
  obtain ⟨i, h1, h2, h3, h4⟩ := info_parts3 byte_info
  have := run_make (P := Try.prog) w 38 5 i _ Try.underlying38 h1 h2 .i64 .i64 n n (by omega) (by omega) (by rw [h4]; omega) (by omega)
  rw [this, made_zero _ (by decide) (fun i hi => by have h1 : i < 1 := hi; obtain rfl : i = 0 := by omega
                                                    rfl), h3, Int.toNat_natCast, Nat.mul_one]

theorem zs_at (n i : Nat) (h : i < n) : (((List.replicate n (0 : UInt8)).map bv).toArray)[i]! = .int .u8 0 := by
  simp [h, bv]
theorem zs32_at (i : Nat) (h : i < 32) : zs32.toArray[i]! = .int .u8 0 := zs_at 32 i h

theorem make_secs (n : Nat) (hn : n ≤ 4096) (w : World) : (Instr.makeSlice 59 (.int .i64 (n : Int)) (.int .i64 (n : Int))).run Try.prog w = .ok (.slice (some ⟨w.heap.size, 0, none⟩) n n) (w.alloc (.cells ((List.replicate (32 * n) (0 : UInt8)).map bv).toArray 85)) := by
  obtain ⟨i, h1, h2, h3, h4⟩ := info_parts3 sec_info
  have := run_make (P := Try.prog) w 59 85 i _ Try.underlying59 h1 h2 .i64 .i64 n n (by omega) (by omega) (by rw [h4]; omega) (by omega)
  rw [this, made_zero (Value.agg zs32.toArray).cells (by show 0 < 32; omega) (fun i hi => zs32_at i hi), h3, Int.toNat_natCast, Nat.mul_comm n 32]

theorem sec_cells {w : World} {g s n : Nat} {d : Dk.D} (h : DiskAt w g s n d) (j : Nat) : ∀ i v, ((Dk.sec d.b j).map bv)[i]? = some v → w.cell? ((⟨s, j * 32, none⟩ : Addr).add i) = some v := by
  intro i v hv
  rw [Addr.add_mid, cell_of_row w s _ _ _ _ h.row]
  unfold Dk.sec at hv
  rw [List.getElem?_map, List.getElem?_take] at hv
  split at hv
  · rw [List.getElem?_drop] at hv
    simp only [List.getElem?_toArray, List.getElem?_map]
    rw [Nat.mul_comm j 32]
    exact hv
  · simp at hv

theorem splice_all {α : Type} (Z cs : List α) (h : cs.length = Z.length) : splice Z 0 cs = cs := by
  unfold splice; rw [List.drop_eq_nil_of_le (by omega)]; simp

set_option maxHeartbeats 1000000 in
set_option maxRecDepth 100000 in
theorem read_ok (g s n : Nat) (d : Dk.D) (j : Nat) (w : World) (h : DiskAt w g s n d) (hj : j < n) :
    Calls Try.prog 29 #[.pointer (some ⟨g, 0, none⟩), .int .i64 j] w fun e w' => e = .returned (.tuple #[.slice (some ⟨w.heap.size, 0, none⟩) 32 32, .int .i64 0]) ∧
      w'.heap[w.heap.size]? = some (.cells ((Dk.sec d.b j).map bv).toArray 5 (0, 0)) ∧ Below w.heap.size w w' := by
  have hhas := has_any g s n d j w h
  rw [Dk.has_iff.2 ⟨by omega, by omega⟩] at hhas
  have HAS := Lib.hid hhas
  have hmk : ∀ W : World, (Instr.makeSlice 38 (.int .i64 32) (.int .i64 32)).run Try.prog W = .ok (.slice (some ⟨W.heap.size, 0, none⟩) 32 32) (W.alloc (.cells ((List.replicate 32 (0 : UInt8)).map bv).toArray 5)) := make_bytes 32 (by omega)
  have h1 : DiskAt (w.alloc (.cells ((List.replicate 32 (0 : UInt8)).map bv).toArray 5)) g s n d := h.keep (F := No) ((Kept.refl No w).alloc _) id id
  have hsl := Dk.sec_len h.good.len hj
  obtain ⟨W1, hrun1, hrow1, hk1⟩ := run_copy_kept (P := Try.prog) (w.alloc (.cells ((List.replicate 32 (0 : UInt8)).map bv).toArray 5)) 38 38 3 5 (some ⟨w.heap.size, 0, none⟩) (some ⟨s, j * 32, none⟩) 32 32 32 32 Try.underlying38 byte_size
    w.heap.size 0 ((List.replicate 32 (0 : UInt8)).map bv) 5 (heap_alloc_new w _) ((Dk.sec d.b j).map bv) (by rw [List.length_map, hsl]; rfl)
    (fun _ => ⟨rfl, _, rfl, sec_cells h1 j⟩) (by rw [List.length_map, hsl]; simp) (bv_one _)
  rw [splice_all _ _ (by rw [List.length_map, hsl]; rfl)] at hrow1
  rw [List.length_map, hsl] at hrun1
  have HB1 : Hid (Below w.heap.size w W1) := hk1.below ((Below.refl _ _).alloc (Nat.le_refl _) _) (by simp) (fun i hi e => by omega)
  have HROW := Lib.hid hrow1
  have c0 := h1.c0
  have i1 : (0 : Int) ≤ (j : Int) := by omega
  have i2 : (j : Int) < (n : Int) := by omega
  have hn1 := h.n1
  clear h h1 hhas hrow1 hk1 hsl
  generalize ((List.replicate 32 (0 : UInt8)).map bv).toArray = Z at *
  go_enter Try.func29, Try.ntmps29
  go_wp2_with (go_at_call 41; refine HAS.out.mono ?_; rintro e w' ⟨rfl, rfl⟩)
  go_ret2
  exact ⟨rfl, HROW.out, HB1.out⟩

set_option maxHeartbeats 400000 in
theorem read_no (g s n : Nat) (d : Dk.D) (k : Int) (w : World) (h : DiskAt w g s n d) (hk : Dk.has n k = false) :
    Calls Try.prog 29 #[.pointer (some ⟨g, 0, none⟩), .int .i64 k] w fun e w' => e = .returned (.tuple #[.slice none 0 0, .int .i64 5]) ∧ w = w' := by
  have hhas := has_any g s n d k w h
  rw [hk] at hhas
  have HAS := Lib.hid hhas
  clear hhas h hk
  go_enter Try.func29, Try.ntmps29
  go_wp2_with (go_at_call 41; refine HAS.out.mono ?_; rintro e w' ⟨rfl, rfl⟩)
  go_ret2
  exact ⟨rfl, rfl⟩

set_option maxHeartbeats 1000000 in
set_option maxRecDepth 100000 in
theorem new_ok (n : Nat) (w : World) (h0 : 2 ≤ n) (h1 : n ≤ 4096) :
    Calls Try.prog 8 #[.int .i64 n] w fun e w' => e = .returned (.tuple #[.pointer (some ⟨w.heap.size + 1, 0, none⟩), .int .i64 0]) ∧ DiskAt w' (w.heap.size + 1) w.heap.size n (Dk.fresh n) ∧ Below w.heap.size w w' := by
  have hmk := make_secs n h1
  have HZ : Hid (((Dk.fresh n).b.map bv).toArray = ((List.replicate (32 * n) (0 : UInt8)).map bv).toArray) := rfl
  generalize ((List.replicate (32 * n) (0 : UInt8)).map bv).toArray = Z at *
  go_enter Try.func8, Try.ntmps8
  go_wp2
  go_ret2
  refine ⟨rfl, ⟨?_, ?_, Dk.fresh_good n, h0, h1⟩, ((Below.refl _ _).alloc (Nat.le_refl _) _).alloc (by simp) _⟩
  · have := heap_alloc_new (w.alloc (.cells Z 85)) (.cells #[.slice (some ⟨w.heap.size, 0, none⟩) n n, .bool true, .int .i64 (-1), .int .i64 0, .int .i64 0] 61)
    rw [show (w.alloc (.cells Z 85)).heap.size = w.heap.size + 1 by simp] at this
    exact this
  · rw [Below.heap_alloc _ _ _ (by simp), HZ.out]
    exact heap_alloc_new w _

set_option maxHeartbeats 400000 in
theorem new_no (n : Int) (w : World) (h : n < 2 ∨ 4096 < n) :
    Calls Try.prog 8 #[.int .i64 n] w fun e w' => e = .returned (.tuple #[.pointer none, .int .i64 1]) ∧ w = w' := by
  by_cases h1 : n < 2
  · have d1 : decide (n < 2) = true := decide_eq_true h1
    clear h
    go_enter Try.func8, Try.ntmps8
    go_wp2
    go_ret2
    exact ⟨rfl, rfl⟩
  · have d1 : decide (n < 2) = false := decide_eq_false h1
    have d2 : decide (4096 < n) = true := decide_eq_true (by omega)
    clear h
    go_enter Try.func8, Try.ntmps8
    go_wp2
    go_ret2
    exact ⟨rfl, rfl⟩

end Go.Proofs.Ytoocifoglhhnmaa
