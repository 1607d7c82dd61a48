/- The law's own wake-up call over package crc returns true. -/
import Derived.Test.YtljlipdpbflffaaCrcMore
import Derived.Lib.SlBytesConst
namespace Go.Proofs.Ytljlipdpbflffaa
open Go.RowKit

theorem more_lit : Crc.more 0 [49, 50, 51, 52, 53, 54, 55, 56, 57] = 3421780262 := by decide +kernel
theorem more_nil : Crc.more 0 [] = 0 := by decide +kernel
theorem e8_1 : Crc.e8 1 = 1996959894 := by decide +kernel
theorem e8_255 : Crc.e8 255 = 755167117 := by decide +kernel

theorem lit_bytes (w : World) (t : TypeId) (fr : Nat × Nat) : BytesAt (w.alloc (.cells #[.int .u8 49, .int .u8 50, .int .u8 51, .int .u8 52, .int .u8 53, .int .u8 54, .int .u8 55, .int .u8 56, .int .u8 57] t fr)) (some ⟨w.heap.size, 0, none⟩) [49, 50, 51, 52, 53, 54, 55, 56, 57] := by
  intro k b hk
  have hk9 : k < 9 := (List.getElem?_eq_some_iff.1 hk).1
  refine ⟨?_, _, rfl, ?_⟩
  · have := List.mem_of_getElem? hk
    simp at this
    omega
  · rw [Addr.add_mid, Nat.zero_add, cell_of_row _ _ k _ t fr (heap_alloc_last w _)]
    match k, hk9, hk with
    | 0, _, hk => simp at hk; subst hk; rfl
    | 1, _, hk => simp at hk; subst hk; rfl
    | 2, _, hk => simp at hk; subst hk; rfl
    | 3, _, hk => simp at hk; subst hk; rfl
    | 4, _, hk => simp at hk; subst hk; rfl
    | 5, _, hk => simp at hk; subst hk; rfl
    | 6, _, hk => simp at hk; subst hk; rfl
    | 7, _, hk => simp at hk; subst hk; rfl
    | 8, _, hk => simp at hk; subst hk; rfl

theorem sum_lit (w : World) (t : TypeId) (fr : Nat × Nat) (c : Nat) :
    Calls Try.prog 8 #[.slice (some ⟨w.heap.size, 0, none⟩) 9 c] (w.alloc (.cells #[.int .u8 49, .int .u8 50, .int .u8 51, .int .u8 52, .int .u8 53, .int .u8 54, .int .u8 55, .int .u8 56, .int .u8 57] t fr)) fun e w' => e = .returned (.int .u32 3421780262) ∧ Below (w.heap.size + 1) (w.alloc (.cells #[.int .u8 49, .int .u8 50, .int .u8 51, .int .u8 52, .int .u8 53, .int .u8 54, .int .u8 55, .int .u8 56, .int .u8 57] t fr)) w' := by
  refine (sum_any (some ⟨w.heap.size, 0, none⟩) c [49, 50, 51, 52, 53, 54, 55, 56, 57] _ (by decide) (lit_bytes w t fr)).mono ?_
  rintro e w' ⟨rfl, hb⟩
  refine ⟨by rw [more_lit]; rfl, ?_⟩
  simpa using hb

theorem sum_nil (w : World) (c : Nat) :
    Calls Try.prog 8 #[.slice none 0 c] w fun e w' => e = .returned (.int .u32 0) ∧ Below w.heap.size w w' := by
  refine (sum_any none c [] w (by decide) (fun k b hk => by simp at hk)).mono ?_
  rintro e w' ⟨rfl, hb⟩
  exact ⟨by rw [more_nil]; rfl, hb⟩

set_option maxHeartbeats 1000000 in
set_option maxRecDepth 100000 in
theorem awake_any (w : World) : Calls Try.prog 6 #[] w fun e w' => e = .returned (.bool true) ∧ Below w.heap.size w w' := by
  have hz := zero_tab
  have HSZ := Lib.hid (show (Try.prog.info? 25).map (·.size) = some (tabCells 256).size by rw [tab_size]; exact size_tab)
  go_enter Try.func6, Try.ntmps6
  have kc := fun (w : World) (C : Array Value) (n c : Nat) => Lib.run_convert_bytes_const (P := Try.prog) w 23 5 C n c Try.underlying23 Try.underlying5
  go_wp2_with (first
    | (go_at_call 7; refine (table_any _).mono ?_; rintro e w1 ⟨rfl, hb⟩; have HB := Lib.hid hb; clear hb)
    | (refine wpList_store_mid rfl 25 (.tmp 1) (.tmp 2) rfl _ 0 (tabCells 256) rfl rfl (by rw [tab_size]; exact there_new _ _ (tab_size 0)) HSZ.out (tab_one 256) ?_
       have HT := Lib.hid (tabAt_new w1)
       have HG : Hid (w1.heap.size < ((w1.alloc (Obj.cells (tabCells 0) 25)).setCells w1.heap.size 0 (tabCells 256).toList).heap.size) := lt_of_cell (HT.out 0 (by omega))
       have HBW := Lib.hid (below_setCellsR (b := w1.heap.size) HB.out.size (tabCells 256).toList 0 _ (HB.out.alloc HB.out.size (.cells (tabCells 0) 25)))
       generalize hW : (w1.alloc (Obj.cells (tabCells 0) 25)).setCells w1.heap.size 0 (tabCells 256).toList = W at *
       clear hW HB hz HSZ
       generalize w1.heap.size = g at *))
  refine (sum_lit W 5 (9, 10) 9).mono ?_
  rintro e w2 ⟨rfl, hb2⟩
  have HB2 : Hid (Below W.heap.size W w2) := ((Below.refl _ _).alloc (Nat.le_refl _) _).trans (hb2.mono (by omega))
  clear hb2 kc
  go_wp2_with (go_at_call 8; refine (sum_nil _ _).mono ?_; rintro e w3 ⟨rfl, hb3⟩
               have HB3 : Hid (Below W.heap.size W w3) := HB2.out.trans (hb3.mono HB2.out.size)
               have hc1 : w3.cell? ⟨g, 1, none⟩ = some (.int .u32 1996959894) := by rw [HB3.out.cell (p := ⟨g, 1, none⟩) HG.out, HT.out 1 (by omega), e8_1]; rfl
               have hc2 : w3.cell? ⟨g, 255, none⟩ = some (.int .u32 755167117) := by rw [HB3.out.cell (p := ⟨g, 255, none⟩) HG.out, HT.out 255 (by omega), e8_255]; rfl
               clear hb3)
  go_ret
  exact ⟨rfl, HBW.out.trans (HB3.out.mono HBW.out.size)⟩

end Go.Proofs.Ytljlipdpbflffaa
