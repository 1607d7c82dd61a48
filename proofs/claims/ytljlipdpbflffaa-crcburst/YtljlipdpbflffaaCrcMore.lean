/- Contracts of package crc: More and Sum, for all bytes. -/
import Derived.Test.YtljlipdpbflffaaCrcTab
namespace Go.Proofs.Ytljlipdpbflffaa
open Go.RowKit

theorem block_add (a : Addr) (n : Nat) : (a.add n).block = a.block := by unfold Addr.add; split <;> rfl

theorem lt_of_cell {w : World} {p : Addr} {v : Value} (h : w.cell? p = some v) : p.block < w.heap.size := by
  rcases Nat.lt_or_ge p.block w.heap.size with h1 | h1
  · exact h1
  · unfold World.cell? at h; rw [Array.getElem?_eq_none h1] at h; simp at h

theorem bytesAt_below {w w' : World} {A : Option Addr} {l : List Nat} (h : BytesAt w A l) (hb : Below w.heap.size w w') : BytesAt w' A l := by
  intro k b hk
  obtain ⟨h8, ad, e, hc⟩ := h k b hk
  exact ⟨h8, ad, e, by rw [hb.cell (lt_of_cell hc)]; exact hc⟩

/-- the table lies in this block -/
def TabAt (w : World) (g : Nat) : Prop := ∀ i, i < 256 → w.cell? ⟨g, i, none⟩ = some (.int .u32 ((Crc.e8 i : Nat) : Int))

theorem there_new (w : World) (Z : Array Value) (hZ : Z.size = 256) : (w.alloc (.cells Z 25)).there w.heap.size 0 256 := by
  have hh : (w.alloc (.cells Z 25)).heap[w.heap.size]? = some (.cells Z 25 (0, 0)) := heap_alloc_last _ _
  intro j hj
  refine ⟨?_, ?_⟩
  · rw [cell_of_row _ w.heap.size (0 + j) Z 25 (0, 0) hh]
    rw [Array.getElem?_eq_getElem (by omega)]; rfl
  · unfold World.frozen?; rw [hh]; simp

theorem tabAt_new (w : World) : TabAt ((w.alloc (.cells (tabCells 0) 25)).setCells w.heap.size 0 (tabCells 256).toList) w.heap.size := by
  intro i hi
  have hr := World.rangeAt_setCells_same (w.alloc (.cells (tabCells 0) 25)) w.heap.size 0 (tabCells 256).toList (by rw [Array.length_toList, tab_size]; exact there_new w _ (tab_size 0))
  have := hr i (.int .u32 ((Crc.e8 i : Nat) : Int)) (by rw [Array.getElem?_toList, tab_at 256 i hi, if_pos hi])
  rw [Nat.zero_add] at this
  exact this

theorem not32 (s : Nat) (hs : s < 4294967296) : 4294967295 ^^^ s = 4294967295 - s := by
  have h1 : (BitVec.allOnes 32 ^^^ BitVec.ofNat 32 s).toNat = (~~~ BitVec.ofNat 32 s).toNat := by rw [BitVec.allOnes_xor]
  rw [BitVec.toNat_xor, BitVec.toNat_not, BitVec.toNat_allOnes, BitVec.toNat_ofNat, Nat.mod_eq_of_lt (by omega)] at h1
  exact h1

theorem notU (s : Nat) (hs : s < 4294967296) : bits BinOp.xor IntKind.u32 IntKind.u32.max (s : Int) = ((4294967295 - s : Nat) : Int) := by
  have := u32_xor_nat 4294967295 s (by omega) hs
  rw [not32 s hs] at this
  exact this

theorem xor8 (y b : Nat) (hb : b < 256) : bits BinOp.xor IntKind.u8 ((y : Int) % 256) (b : Int) = ((y % 256 ^^^ b : Nat) : Int) := by
  have := u8_xor_nat (y % 256) b (by omega) hb
  rw [Int.natCast_emod] at this
  exact this

theorem xorV (y v : Nat) (hy : y < 4294967296) (hv : v < 4294967296) : bits BinOp.xor IntKind.u32 ((y : Int) / 256) (v : Int) = ((y / 256 ^^^ v : Nat) : Int) := by
  have := u32_xor_nat (y / 256) v (by omega) hv
  rw [Int.natCast_ediv] at this
  exact this

set_option maxHeartbeats 1000000 in
set_option maxRecDepth 100000 in
theorem more_any (s : Nat) (A : Option Addr) (c : Nat) (l : List Nat) (w : World) (hs : s < 4294967296) (hl : l.length ≤ maxLen) (hc : BytesAt w A l) :
    Calls Try.prog 10 #[.int .u32 s, .slice A l.length c] w fun e w' => e = .returned (.int .u32 (Crc.more s l : Nat)) ∧ Below w.heap.size w w' := by
  unfold maxLen at hl
  have HL := Lib.hid (bytesAt_lt hc)
  have HC := Lib.hid hc
  clear hc
  have hz := zero_tab
  have HSZ := Lib.hid (show (Try.prog.info? 25).map (·.size) = some (tabCells 256).size by rw [tab_size]; exact size_tab)
  have hn := notU s hs
  go_enter Try.func10, Try.ntmps10
  go_wp2_with (first
    | (go_at_call 7; refine (table_any _).mono ?_; rintro e w1 ⟨rfl, hb⟩; have HB := Lib.hid hb; clear hb)
    | (refine wpList_store_mid rfl 25 (.tmp 5) (.tmp 9) rfl _ 0 (tabCells 256) rfl rfl (by rw [tab_size]; exact there_new _ _ (tab_size 0)) HSZ.out (tab_one 256) ?_))
  have HT := Lib.hid (tabAt_new w1)
  have HBW := Lib.hid (below_setCellsR (b := w1.heap.size) HB.out.size (tabCells 256).toList 0 _ (HB.out.alloc HB.out.size (.cells (tabCells 0) 25)))
  have HCW := Lib.hid (bytesAt_below HC.out HBW.out)
  generalize hW : (w1.alloc (Obj.cells (tabCells 0) 25)).setCells w1.heap.size 0 (tabCells 256).toList = W at *
  clear hW HC HB hz HSZ hn
  generalize w1.heap.size = g at *
  go_loop [6, 14] (fun n i => ∃ k : Nat, k ≤ l.length ∧ i = .int .i64 k ∧ n = .int .u32 (Crc.st (4294967295 - s) (l.take k) : Nat)) (fun _ i => l.length - (intOf i).toNat)
  case atStart => exact ⟨0, by omega, rfl, rfl⟩
  case round =>
    obtain ⟨k, hk, rfl, rfl⟩ := hrel
    have hy := Crc.st_lt (4294967295 - s) (l.take k) (by omega) (take_lt HL.out k)
    by_cases hlt : k < l.length
    · obtain ⟨b, hb⟩ := list_at l k hlt
      obtain ⟨hb8, ad, rfl, hcell⟩ := HCW.out k b hb
      have HN := Lib.hid (Crc.st_take (4294967295 - s) l k b hb)
      clear hb
      generalize Crc.st (4294967295 - s) (l.take k) = y at *
      have hj := xor8 y b hb8
      have hj8 := Crc.xor_lt256 (y % 256) b (by omega) hb8
      have htab := HT.out _ hj8
      have hv := Crc.e8_lt (y % 256 ^^^ b) (by omega)
      have HS := Lib.hid (Crc.byte_step y b hb8)
      generalize y % 256 ^^^ b = j at *
      generalize Crc.e8 j = v at *
      have hx := xorV y v hy hv
      go_wp2
      go_round
      case rel => exact ⟨k + 1, by omega, by go_num, u32_eq (by rw [HN.out, HS.out])⟩
      case measure => simp [intOf]; omega
    · obtain rfl : k = l.length := by omega
      rw [List.take_length] at hy
      rw [List.take_length]
      have HE : Hid (Crc.more s l = 4294967295 - Crc.st (4294967295 - s) l) := rfl
      generalize Crc.st (4294967295 - s) l = y at *
      have hn := notU y hy
      go_wp2
      go_ret
      exact ⟨by rw [HE.out]; rfl, HBW.out⟩

set_option maxHeartbeats 400000 in
theorem sum_any (A : Option Addr) (c : Nat) (l : List Nat) (w : World) (hl : l.length ≤ maxLen) (hc : BytesAt w A l) :
    Calls Try.prog 8 #[.slice A l.length c] w fun e w' => e = .returned (.int .u32 (Crc.more 0 l : Nat)) ∧ Below w.heap.size w w' := by
  have HC := Lib.hid hc
  clear hc
  go_enter Try.func8, Try.ntmps8
  go_wp2_with (go_at_call 10; refine (more_any 0 _ _ l _ (by omega) hl HC.out).mono ?_; rintro e w' ⟨rfl, hb⟩)
  go_ret
  exact ⟨rfl, hb⟩

end Go.Proofs.Ytljlipdpbflffaa
