/- Contracts of package crc: the table. -/
import Derived.Test.YtljlipdpbflffaaCrcWalks
import Derived.Laws.ResultCell
import Derived.Deep.LoopGhost
import Derived.Deep.WholeRow
import Derived.Deep.MidRow
import Derived.Below
namespace Go.Proofs.Ytljlipdpbflffaa
open Go.RowKit

def tabCells (k : Nat) : Array Value := (List.range 256).toArray.map fun i => if i < k then Value.int .u32 ((Crc.e8 i : Nat) : Int) else Value.int .u32 0

theorem tab_size (k : Nat) : (tabCells k).size = 256 := by unfold tabCells; simp

theorem tab_at (k i : Nat) (h : i < 256) : (tabCells k)[i]? = some (if i < k then Value.int .u32 ((Crc.e8 i : Nat) : Int) else Value.int .u32 0) := by
  unfold tabCells
  rw [Array.getElem?_map]
  rw [List.getElem?_toArray, List.getElem?_range h]; rfl

theorem tab_zero : tabCells 0 = Array.replicate 256 (Value.int .u32 0) := by
  apply Array.ext_getElem?
  intro i
  by_cases h : i < 256
  · rw [tab_at 0 i h, Array.getElem?_replicate, if_pos h]; simp
  · rw [Array.getElem?_eq_none (by rw [tab_size]; omega), Array.getElem?_eq_none (by simp; omega)]

theorem tab_set (k : Nat) (h : k < 256) : (tabCells k).setIfInBounds k (Value.int .u32 ((Crc.e8 k : Nat) : Int)) = tabCells (k + 1) := by
  apply Array.ext_getElem?
  intro i
  by_cases hi : i < 256
  · rw [Array.getElem?_setIfInBounds, tab_at (k + 1) i hi, tab_at k i hi, tab_size]
    by_cases e : k = i
    · subst e; simp [h]
    · rw [if_neg e]
      by_cases h2 : i < k
      · rw [if_pos h2, if_pos (by omega)]
      · rw [if_neg h2, if_neg (by omega)]
  · rw [Array.getElem?_eq_none (by simp [tab_size]; omega), Array.getElem?_eq_none (by rw [tab_size]; omega)]

theorem tab_one (k : Nat) : (tabCells k).all (·.oneCell') = true := by
  rw [Array.all_eq_true]
  intro i h
  have hi : i < 256 := by rw [tab_size] at h; exact h
  have := tab_at k i hi
  rw [Array.getElem?_eq_getElem h] at this
  have e := Option.some.inj this
  rw [e]
  split <;> rfl

theorem info_tab : (Try.prog.info? 25).map (fun i => (i.zero, i.size)) = some (some (.agg (Array.replicate 256 (.int .u32 0))), 256) := by kernel_rfl
theorem zero_tab (w : World) : (zeroValue 25).run Try.prog w = .ok (.agg (tabCells 0)) w := by rw [tab_zero]; exact (zero_of_info info_tab).1 w
theorem size_tab : (Try.prog.info? 25).map (·.size) = some 256 := (zero_of_info info_tab).2
theorem und_tab : Try.prog.underlying 25 = some (.array 256 22) := by kernel_rfl

theorem rangeAt_tab (w : World) (Z C : Array Value) : ((w.alloc (.cells Z 25)).alloc (.cells C 25)).rangeAt (w.heap.size + 1) 0 C.toList := by
  intro j v hv
  have hb : (w.alloc (.cells Z 25)).heap.size = w.heap.size + 1 := by simp
  have := cell_of_row ((w.alloc (.cells Z 25)).alloc (.cells C 25)) (w.heap.size + 1) j C 25 (0, 0) (by rw [← hb]; exact heap_alloc_last _ _)
  rw [Nat.zero_add, this]
  simpa using hv

theorem there_tab (w : World) (Z C : Array Value) (hZ : Z.size = 256) : ((w.alloc (.cells Z 25)).alloc (.cells C 25)).there w.heap.size 0 256 := by
  have hh : ((w.alloc (.cells Z 25)).alloc (.cells C 25)).heap[w.heap.size]? = some (.cells Z 25 (0, 0)) := by
    rw [Below.heap_alloc _ _ _ (by simp)]; exact heap_alloc_last _ _
  intro j hj
  refine ⟨?_, ?_⟩
  · rw [cell_of_row _ w.heap.size (0 + j) Z 25 (0, 0) hh]
    rw [Array.getElem?_eq_getElem (by omega)]; rfl
  · simp [World.frozen?, hh]

theorem below_setCellsR {B b : Nat} {a : World} (hb : B ≤ b) : ∀ (vs : List Value) (o : Nat) (w : World), Below B a w → Below B a (w.setCells b o vs)
  | [], _, _, h => h
  | v :: r, o, _, h => below_setCellsR hb r (o + 1) _ (h.setCell (p := ⟨b, o, none⟩) hb v)

theorem results_cell1 {fn : Func} {p : Tmp} {ty : TypeId} (h : fn.results = #[.cell p ty]) (tmps : Array Value) (P : Program) (w : World) :
    (results fn tmps).run P w = ((asAddr (tmps.getD p undef)).run P w).andThen fun a w₁ => (loadVar ty a).run P w₁ := by
  simp only [results, h]
  simp [Sem.run_bind, Result.andThen]

set_option maxHeartbeats 1000000 in
set_option maxRecDepth 100000 in
theorem table_any (w : World) :
    Calls Try.prog 7 #[] w fun e w' => e = .returned (.agg (tabCells 256)) ∧ Below w.heap.size w w' := by
  have hz := zero_tab
  go_enter Try.func7, Try.ntmps7
  go_wp2
  generalize hZ : tabCells 0 = Z
  have HZ := Lib.hid hZ
  rw [hZ] at hz
  clear hZ
  go_loopg [3] 256 (fun g s3 wx => ∃ i : Nat, i + g = 256 ∧ s3 = .int .i64 i ∧ wx = (w.alloc (.cells Z 25)).alloc (.cells (tabCells i) 25))
  case atStart => exact ⟨0, by omega, rfl, by rw [HZ.out]⟩
  case round =>
    obtain ⟨i, hig, rfl, rfl⟩ := hrel
    cases gk with
    | zero =>
      obtain rfl : i = 256 := by omega
      clear hig
      have hr1 := rangeAt_tab w Z (tabCells 256)
      have ht1 := there_tab w Z (tabCells 256) (by rw [← HZ.out, tab_size])
      have hsz : (Try.prog.info? 25).map (·.size) = some (tabCells 256).toList.length := by rw [Array.length_toList, tab_size]; exact size_tab
      have HR := Lib.hid hr1
      have HT := Lib.hid ht1
      have HSZ := Lib.hid hsz
      clear hr1 ht1 hsz
      go_wp2_with (first
        | (refine wpList_load_mid rfl 25 (.tmp 1) rfl _ 0 rfl (tabCells 256).toList (.array 256 22) HR.out und_tab rfl HSZ.out ?_)
        | (refine wpList_store_mid rfl 25 (.tmp 0) (.tmp 12) rfl _ 0 (tabCells 256) rfl rfl (by rw [tab_size]; exact HT.out) HSZ.out (tab_one 256) ?_))
      refine bodyPost_ret (v := .agg (tabCells 256)) ?_ rfl ⟨rfl, below_setCellsR (Nat.le_refl _) _ _ _ (((Below.refl _ _).alloc (Nat.le_refl _) _).alloc (by simp) _)⟩
      have hr2 := World.rangeAt_setCells_same ((w.alloc (Obj.cells Z 25)).alloc (Obj.cells (tabCells 256) 25)) w.heap.size 0 (tabCells 256).toList (by rw [Array.length_toList, tab_size]; exact HT.out)
      have hl2 := run_loadVar_mid (P := Try.prog) _ w.heap.size 0 25 (tabCells 256).toList (.array 256 22) hr2 und_tab rfl HSZ.out
      rw [results_cell1 rfl]
      simp only [Act.put, Array.getD, asAddr]
      simp [Result.andThen, hl2]
    | succ g =>
      have hi : i < 256 := by omega
      have hiz : (i : Int) < 256 := by omega
      have HS := Lib.hid (tab_set i hi)
      have hcell := tab_at i i hi
      go_wp2_with (go_at_call 13; refine (eight_any _ _ (by omega)).mono ?_; rintro e w' ⟨rfl, rfl⟩)
      go_roundg g
      case measure => omega
      case rel => exact ⟨i + 1, by omega, by first | rfl | go_num, by rw [HS.out]⟩

end Go.Proofs.Ytljlipdpbflffaa
