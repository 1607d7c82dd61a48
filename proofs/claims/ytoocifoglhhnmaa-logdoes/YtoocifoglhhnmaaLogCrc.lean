/- Contracts of package crc and of the document's sums, as in round 2 (CrcWalks, CrcTab, CrcMore), in a namespace of their own. -/
import Derived.Test.YtoocifoglhhnmaaProg
import Derived.Test.YtoocifoglhhnmaaCrcMath
import Derived.WalkKit
import Derived.WalkSpells
import Derived.WalkLawsBesides
import Derived.Laws.BitsAllLaws
import Derived.Lib.Hide
import Derived.Laws.ResultCell
import Derived.Deep.LoopGhost
import Derived.Deep.WholeRow
import Derived.Deep.MidRow
import Derived.Below
namespace Go.Proofs.Ytoocifoglhhnmaa.Cc
open Go.RowKit

theorem and1 (y : Nat) (h : y < 4294967296) : bits BinOp.and IntKind.u32 (y : Int) 1 = ((y % 2 : Nat) : Int) := by
  have := u32_and_nat y 1 h (by omega)
  rw [Nat.and_one_is_mod] at this
  exact this

theorem xorD (y : Nat) (h : y < 4294967296) : bits BinOp.xor IntKind.u32 ((y : Int) / 2) 3988292384 = ((y / 2 ^^^ 3988292384 : Nat) : Int) := by
  have := u32_xor_nat (y / 2) 3988292384 (by omega) (by omega)
  rw [Int.natCast_ediv] at this
  exact this

theorem T_odd (y : Nat) (h : y < 4294967296) (ho : y % 2 = 1) : bits BinOp.xor IntKind.u32 ((y : Int) / 2) 3988292384 = ((Crc.T y : Nat) : Int) := by
  rw [xorD y h]; unfold Crc.T; rw [if_pos ho]

theorem T_even (y : Nat) (ho : ¬ y % 2 = 1) : (y : Int) / 2 = ((Crc.T y : Nat) : Int) := by
  unfold Crc.T; rw [if_neg ho, Int.natCast_ediv]; rfl

theorem u32_eq {a b : Int} (h : a = b) : Value.int .u32 a = Value.int .u32 b := by rw [h]

set_option maxHeartbeats 400000 in
theorem eight_any (x : Nat) (w : World) (hx : x < 4294967296) :
    Calls Try.prog 79 #[.int .u32 x] w fun e w' => e = .returned (.int .u32 (Crc.e8 x : Nat)) ∧ w = w' := by
  go_enter Try.func79, Try.ntmps79
  go_wp2
  go_loop [0, 4] (fun n i => ∃ k : Nat, k ≤ 8 ∧ i = .int .i64 k ∧ n = .int .u32 (Crc.Tn k x : Nat)) (fun _ i => 8 - (intOf i).toNat)
  case atStart => exact ⟨0, by omega, rfl, rfl⟩
  case round =>
    obtain ⟨k, hk, rfl, rfl⟩ := hrel
    have hy := Crc.Tn_lt k x hx
    have HN := Lib.hid (Crc.Tn_last k x)
    by_cases hlt : k < 8
    · generalize Crc.Tn k x = y at *
      by_cases ho : y % 2 = 1
      · have ha : (bits BinOp.and IntKind.u32 (y : Int) 1 == 1) = true := by rw [and1 y hy, ho]; rfl
        have HO := Lib.hid ho
        clear ho
        go_wp2
        go_round
        case rel => exact ⟨k + 1, by omega, by go_num, u32_eq (by rw [HN.out]; exact T_odd y hy HO.out)⟩
        case measure => simp [intOf]; omega
      · have ha : (bits BinOp.and IntKind.u32 (y : Int) 1 == 1) = false := by rw [and1 y hy]; simp; omega
        have HO := Lib.hid ho
        clear ho
        go_wp2
        go_round
        case rel => exact ⟨k + 1, by omega, by go_num, u32_eq (by rw [HN.out]; exact T_even y HO.out)⟩
        case measure => simp [intOf]; omega
    · obtain rfl : k = 8 := by omega
      clear HN
      go_wp2
      go_ret
      exact ⟨rfl, rfl⟩

set_option maxHeartbeats 400000 in
theorem reight_any (x : Nat) (w : World) (hx : x < 4294967296) :
    Calls Try.prog 77 #[.int .u32 x] w fun e w' => e = .returned (.int .u32 (Crc.e8 x : Nat)) ∧ w = w' := by
  go_enter Try.func77, Try.ntmps77
  go_wp2
  go_loop [0, 3] (fun n i => ∃ k : Nat, k ≤ 8 ∧ i = .int .i64 k ∧ n = .int .u32 (Crc.Tn k x : Nat)) (fun _ i => 8 - (intOf i).toNat)
  case atStart => exact ⟨0, by omega, rfl, rfl⟩
  case round =>
    obtain ⟨k, hk, rfl, rfl⟩ := hrel
    have hy := Crc.Tn_lt k x hx
    have HN := Lib.hid (Crc.Tn_last k x)
    by_cases hlt : k < 8
    · generalize Crc.Tn k x = y at *
      by_cases ho : y % 2 = 1
      · have ha : ((y : Int) % 2 == 1) = true := by simp; omega
        have HO := Lib.hid ho
        clear ho
        go_wp2
        go_round
        case rel => exact ⟨k + 1, by omega, by go_num, u32_eq (by rw [HN.out]; exact T_odd y hy HO.out)⟩
        case measure => simp [intOf]; omega
      · have ha : ((y : Int) % 2 == 1) = false := by simp; omega
        have HO := Lib.hid ho
        clear ho
        go_wp2
        go_round
        case rel => exact ⟨k + 1, by omega, by go_num, u32_eq (by rw [HN.out]; exact T_even y HO.out)⟩
        case measure => simp [intOf]; omega
    · obtain rfl : k = 8 := by omega
      clear HN
      go_wp2
      go_ret
      exact ⟨rfl, rfl⟩

/-- The cells of a slice of bytes: 'l', from the address on. -/
def BytesAt (w : World) (A : Option Addr) (l : List Nat) : Prop :=
  ∀ k b : Nat, l[k]? = some b → b < 256 ∧ ∃ ad, A = some ad ∧ w.cell? (ad.add k) = some (.int .u8 (b : Int))

theorem list_at {α : Type} (l : List α) (k : Nat) (h : k < l.length) : ∃ x, l[k]? = some x := ⟨l[k], List.getElem?_eq_getElem h⟩

theorem bytesAt_lt {w : World} {A : Option Addr} {l : List Nat} (h : BytesAt w A l) : ∀ b ∈ l, b < 256 := by
  intro b hb
  obtain ⟨k, hk⟩ := List.getElem?_of_mem hb
  exact (h k b hk).1

theorem take_lt {l : List Nat} (h : ∀ b ∈ l, b < 256) (k : Nat) : ∀ b ∈ l.take k, b < 256 := fun b hb => h b (List.mem_of_mem_take hb)

theorem xorB (y b : Nat) (hy : y < 4294967296) (hb : b < 256) : bits BinOp.xor IntKind.u32 (y : Int) (b : Int) = ((y ^^^ b : Nat) : Int) :=
  u32_xor_nat y b hy (by omega)

set_option maxHeartbeats 1000000 in
theorem rmore_any (s : Nat) (A : Option Addr) (c : Nat) (l : List Nat) (w : World) (hs : s < 4294967296) (hl : l.length ≤ maxLen) (hc : BytesAt w A l) :
    Calls Try.prog 71 #[.int .u32 s, .slice A l.length c] w fun e w' => e = .returned (.int .u32 (Crc.more s l : Nat)) ∧ w = w' := by
  unfold maxLen at hl
  have HL := Lib.hid (bytesAt_lt hc)
  have HC := Lib.hid hc
  clear hc
  go_enter Try.func71, Try.ntmps71
  go_wp2
  go_loop [5, 6] (fun n i => ∃ k : Nat, k ≤ l.length ∧ i = .int .i64 k ∧ n = .int .u32 (Crc.st (4294967295 - s) (l.take k) : Nat)) (fun _ i => l.length - (intOf i).toNat)
  case atStart => exact ⟨0, by omega, rfl, u32_eq (by rw [List.take_zero, Crc.st_nil]; omega)⟩
  case round =>
    obtain ⟨k, hk, rfl, rfl⟩ := hrel
    have hy := Crc.st_lt (4294967295 - s) (l.take k) (by omega) (take_lt HL.out k)
    by_cases hlt : k < l.length
    · obtain ⟨b, hb⟩ := list_at l k hlt
      obtain ⟨hb8, ad, rfl, hcell⟩ := HC.out k b hb
      have HN := Lib.hid (Crc.st_take (4294967295 - s) l k b hb)
      clear hb
      generalize Crc.st (4294967295 - s) (l.take k) = y at *
      have hx := xorB y b hy hb8
      have hlt2 := Crc.xor_lt32 y b hy (by omega)
      go_wp2_with (go_at_call 77; refine (reight_any _ _ hlt2).mono ?_; rintro e w' ⟨rfl, rfl⟩)
      go_round
      case rel => exact ⟨k + 1, by omega, by go_num, u32_eq (by rw [HN.out])⟩
      case measure => simp [intOf]; omega
    · obtain rfl : k = l.length := by omega
      rw [List.take_length] at hy
      rw [List.take_length]
      have HE : Hid (Crc.more s l = 4294967295 - Crc.st (4294967295 - s) l) := rfl
      generalize Crc.st (4294967295 - s) l = y at *
      go_wp2
      go_ret
      exact ⟨by rw [HE.out]; exact congrArg _ (u32_eq (by omega)), rfl⟩

set_option maxHeartbeats 400000 in
theorem rsum_any (A : Option Addr) (c : Nat) (l : List Nat) (w : World) (hl : l.length ≤ maxLen) (hc : BytesAt w A l) :
    Calls Try.prog 56 #[.slice A l.length c] w fun e w' => e = .returned (.int .u32 (Crc.more 0 l : Nat)) ∧ w = w' := by
  have HC := Lib.hid hc
  clear hc
  go_enter Try.func56, Try.ntmps56
  go_wp2_with (go_at_call 71; refine (rmore_any 0 _ _ l _ (by omega) hl HC.out).mono ?_; rintro e w' ⟨rfl, rfl⟩)
  go_ret
  exact ⟨rfl, rfl⟩

def tabCells (k : Nat) : Array Value := (List.range 256).toArray.map fun i => if i < k then Value.int .u32 ((Crc.e8 i : Nat) : Int) else Value.int .u32 0

theorem tab_size (k : Nat) : (tabCells k).size = 256 := by unfold tabCells; simp

theorem tab_at (k i : Nat) (h : i < 256) : (tabCells k)[i]? = some (if i < k then Value.int .u32 ((Crc.e8 i : Nat) : Int) else Value.int .u32 0) := by
  unfold tabCells
  rw [Array.getElem?_map]
  rw [List.getElem?_toArray, List.getElem?_range h]; rfl

theorem tab_zero : tabCells 0 = Array.replicate 256 (Value.int .u32 0) := by
  apply Array.ext_getElem?
  intro i
  by_cases h : i < 256
  · rw [tab_at 0 i h, Array.getElem?_replicate, if_pos h]; simp
  · rw [Array.getElem?_eq_none (by rw [tab_size]; omega), Array.getElem?_eq_none (by simp; omega)]

theorem tab_set (k : Nat) (h : k < 256) : (tabCells k).setIfInBounds k (Value.int .u32 ((Crc.e8 k : Nat) : Int)) = tabCells (k + 1) := by
  apply Array.ext_getElem?
  intro i
  by_cases hi : i < 256
  · rw [Array.getElem?_setIfInBounds, tab_at (k + 1) i hi, tab_at k i hi, tab_size]
    by_cases e : k = i
    · subst e; simp [h]
    · rw [if_neg e]
      by_cases h2 : i < k
      · rw [if_pos h2, if_pos (by omega)]
      · rw [if_neg h2, if_neg (by omega)]
  · rw [Array.getElem?_eq_none (by simp [tab_size]; omega), Array.getElem?_eq_none (by rw [tab_size]; omega)]

theorem tab_one (k : Nat) : (tabCells k).all (·.oneCell') = true := by
  rw [Array.all_eq_true]
  intro i h
  have hi : i < 256 := by rw [tab_size] at h; exact h
  have := tab_at k i hi
  rw [Array.getElem?_eq_getElem h] at this
  have e := Option.some.inj this
  rw [e]
  split <;> rfl

theorem info_tab : (Try.prog.info? 106).map (fun i => (i.zero, i.size)) = some (some (.agg (Array.replicate 256 (.int .u32 0))), 256) := by kernel_rfl
theorem zero_tab (w : World) : (zeroValue 106).run Try.prog w = .ok (.agg (tabCells 0)) w := by rw [tab_zero]; exact (zero_of_info info_tab).1 w
theorem size_tab : (Try.prog.info? 106).map (·.size) = some 256 := (zero_of_info info_tab).2
theorem und_tab : Try.prog.underlying 106 = some (.array 256 95) := by kernel_rfl

theorem rangeAt_tab (w : World) (Z C : Array Value) : ((w.alloc (.cells Z 106)).alloc (.cells C 106)).rangeAt (w.heap.size + 1) 0 C.toList := by
  intro j v hv
  have hb : (w.alloc (.cells Z 106)).heap.size = w.heap.size + 1 := by simp
  have := cell_of_row ((w.alloc (.cells Z 106)).alloc (.cells C 106)) (w.heap.size + 1) j C 106 (0, 0) (by rw [← hb]; exact heap_alloc_last _ _)
  rw [Nat.zero_add, this]
  simpa using hv

theorem there_tab (w : World) (Z C : Array Value) (hZ : Z.size = 256) : ((w.alloc (.cells Z 106)).alloc (.cells C 106)).there w.heap.size 0 256 := by
  have hh : ((w.alloc (.cells Z 106)).alloc (.cells C 106)).heap[w.heap.size]? = some (.cells Z 106 (0, 0)) := by
    rw [Below.heap_alloc _ _ _ (by simp)]; exact heap_alloc_last _ _
  intro j hj
  refine ⟨?_, ?_⟩
  · rw [cell_of_row _ w.heap.size (0 + j) Z 106 (0, 0) hh]
    rw [Array.getElem?_eq_getElem (by omega)]; rfl
  · simp [World.frozen?, hh]

theorem below_setCellsR {B b : Nat} {a : World} (hb : B ≤ b) : ∀ (vs : List Value) (o : Nat) (w : World), Below B a w → Below B a (w.setCells b o vs)
  | [], _, _, h => h
  | v :: r, o, _, h => below_setCellsR hb r (o + 1) _ (h.setCell (p := ⟨b, o, none⟩) hb v)

theorem results_cell1 {fn : Func} {p : Tmp} {ty : TypeId} (h : fn.results = #[.cell p ty]) (tmps : Array Value) (P : Program) (w : World) :
    (results fn tmps).run P w = ((asAddr (tmps.getD p undef)).run P w).andThen fun a w₁ => (loadVar ty a).run P w₁ := by
  simp only [results, h]
  simp [Sem.run_bind, Result.andThen]

set_option maxHeartbeats 1000000 in
set_option maxRecDepth 100000 in
theorem table_any (w : World) :
    Calls Try.prog 76 #[] w fun e w' => e = .returned (.agg (tabCells 256)) ∧ Below w.heap.size w w' := by
  have hz := zero_tab
  go_enter Try.func76, Try.ntmps76
  go_wp2
  generalize hZ : tabCells 0 = Z
  have HZ := Lib.hid hZ
  rw [hZ] at hz
  clear hZ
  go_loopg [3] 256 (fun g s3 wx => ∃ i : Nat, i + g = 256 ∧ s3 = .int .i64 i ∧ wx = (w.alloc (.cells Z 106)).alloc (.cells (tabCells i) 106))
  case atStart => exact ⟨0, by omega, rfl, by rw [HZ.out]⟩
  case round =>
    obtain ⟨i, hig, rfl, rfl⟩ := hrel
    cases gk with
    | zero =>
      obtain rfl : i = 256 := by omega
      clear hig
      have hr1 := rangeAt_tab w Z (tabCells 256)
      have ht1 := there_tab w Z (tabCells 256) (by rw [← HZ.out, tab_size])
      have hsz : (Try.prog.info? 106).map (·.size) = some (tabCells 256).toList.length := by rw [Array.length_toList, tab_size]; exact size_tab
      have HR := Lib.hid hr1
      have HT := Lib.hid ht1
      have HSZ := Lib.hid hsz
      clear hr1 ht1 hsz
      go_wp2_with (first
        | (refine wpList_load_mid rfl 106 (.tmp 1) rfl _ 0 rfl (tabCells 256).toList (.array 256 95) HR.out und_tab rfl HSZ.out ?_)
        | (refine wpList_store_mid rfl 106 (.tmp 0) (.tmp 12) rfl _ 0 (tabCells 256) rfl rfl (by rw [tab_size]; exact HT.out) HSZ.out (tab_one 256) ?_))
      refine bodyPost_ret (v := .agg (tabCells 256)) ?_ rfl ⟨rfl, below_setCellsR (Nat.le_refl _) _ _ _ (((Below.refl _ _).alloc (Nat.le_refl _) _).alloc (by simp) _)⟩
      have hr2 := World.rangeAt_setCells_same ((w.alloc (Obj.cells Z 106)).alloc (Obj.cells (tabCells 256) 106)) w.heap.size 0 (tabCells 256).toList (by rw [Array.length_toList, tab_size]; exact HT.out)
      have hl2 := run_loadVar_mid (P := Try.prog) _ w.heap.size 0 106 (tabCells 256).toList (.array 256 95) hr2 und_tab rfl HSZ.out
      rw [results_cell1 rfl]
      simp only [Act.put, Array.getD, asAddr]
      simp [Result.andThen, hl2]
    | succ g =>
      have hi : i < 256 := by omega
      have hiz : (i : Int) < 256 := by omega
      have HS := Lib.hid (tab_set i hi)
      have hcell := tab_at i i hi
      go_wp2_with (go_at_call 79; refine (eight_any _ _ (by omega)).mono ?_; rintro e w' ⟨rfl, rfl⟩)
      go_roundg g
      case measure => omega
      case rel => exact ⟨i + 1, by omega, by first | rfl | go_num, by rw [HS.out]⟩

theorem block_add (a : Addr) (n : Nat) : (a.add n).block = a.block := by unfold Addr.add; split <;> rfl

theorem lt_of_cell {w : World} {p : Addr} {v : Value} (h : w.cell? p = some v) : p.block < w.heap.size := by
  rcases Nat.lt_or_ge p.block w.heap.size with h1 | h1
  · exact h1
  · unfold World.cell? at h; rw [Array.getElem?_eq_none h1] at h; simp at h

theorem bytesAt_below {w w' : World} {A : Option Addr} {l : List Nat} (h : BytesAt w A l) (hb : Below w.heap.size w w') : BytesAt w' A l := by
  intro k b hk
  obtain ⟨h8, ad, e, hc⟩ := h k b hk
  exact ⟨h8, ad, e, by rw [hb.cell (lt_of_cell hc)]; exact hc⟩

/-- the table lies in this block -/
def TabAt (w : World) (g : Nat) : Prop := ∀ i, i < 256 → w.cell? ⟨g, i, none⟩ = some (.int .u32 ((Crc.e8 i : Nat) : Int))

theorem there_new (w : World) (Z : Array Value) (hZ : Z.size = 256) : (w.alloc (.cells Z 106)).there w.heap.size 0 256 := by
  have hh : (w.alloc (.cells Z 106)).heap[w.heap.size]? = some (.cells Z 106 (0, 0)) := heap_alloc_last _ _
  intro j hj
  refine ⟨?_, ?_⟩
  · rw [cell_of_row _ w.heap.size (0 + j) Z 106 (0, 0) hh]
    rw [Array.getElem?_eq_getElem (by omega)]; rfl
  · unfold World.frozen?; rw [hh]; simp

theorem tabAt_new (w : World) : TabAt ((w.alloc (.cells (tabCells 0) 106)).setCells w.heap.size 0 (tabCells 256).toList) w.heap.size := by
  intro i hi
  have hr := World.rangeAt_setCells_same (w.alloc (.cells (tabCells 0) 106)) w.heap.size 0 (tabCells 256).toList (by rw [Array.length_toList, tab_size]; exact there_new w _ (tab_size 0))
  have := hr i (.int .u32 ((Crc.e8 i : Nat) : Int)) (by rw [Array.getElem?_toList, tab_at 256 i hi, if_pos hi])
  rw [Nat.zero_add] at this
  exact this

theorem not32 (s : Nat) (hs : s < 4294967296) : 4294967295 ^^^ s = 4294967295 - s := by
  have h1 : (BitVec.allOnes 32 ^^^ BitVec.ofNat 32 s).toNat = (~~~ BitVec.ofNat 32 s).toNat := by rw [BitVec.allOnes_xor]
  rw [BitVec.toNat_xor, BitVec.toNat_not, BitVec.toNat_allOnes, BitVec.toNat_ofNat, Nat.mod_eq_of_lt (by omega)] at h1
  exact h1

theorem notU (s : Nat) (hs : s < 4294967296) : bits BinOp.xor IntKind.u32 IntKind.u32.max (s : Int) = ((4294967295 - s : Nat) : Int) := by
  have := u32_xor_nat 4294967295 s (by omega) hs
  rw [not32 s hs] at this
  exact this

theorem xor8 (y b : Nat) (hb : b < 256) : bits BinOp.xor IntKind.u8 ((y : Int) % 256) (b : Int) = ((y % 256 ^^^ b : Nat) : Int) := by
  have := u8_xor_nat (y % 256) b (by omega) hb
  rw [Int.natCast_emod] at this
  exact this

theorem xorV (y v : Nat) (hy : y < 4294967296) (hv : v < 4294967296) : bits BinOp.xor IntKind.u32 ((y : Int) / 256) (v : Int) = ((y / 256 ^^^ v : Nat) : Int) := by
  have := u32_xor_nat (y / 256) v (by omega) hv
  rw [Int.natCast_ediv] at this
  exact this

set_option maxHeartbeats 1000000 in
set_option maxRecDepth 100000 in
theorem more_any (s : Nat) (A : Option Addr) (c : Nat) (l : List Nat) (w : World) (hs : s < 4294967296) (hl : l.length ≤ maxLen) (hc : BytesAt w A l) :
    Calls Try.prog 68 #[.int .u32 s, .slice A l.length c] w fun e w' => e = .returned (.int .u32 (Crc.more s l : Nat)) ∧ Below w.heap.size w w' := by
  unfold maxLen at hl
  have HL := Lib.hid (bytesAt_lt hc)
  have HC := Lib.hid hc
  clear hc
  have hz := zero_tab
  have HSZ := Lib.hid (show (Try.prog.info? 106).map (·.size) = some (tabCells 256).size by rw [tab_size]; exact size_tab)
  have hn := notU s hs
  go_enter Try.func68, Try.ntmps68
  go_wp2_with (first
    | (go_at_call 76; refine (table_any _).mono ?_; rintro e w1 ⟨rfl, hb⟩; have HB := Lib.hid hb; clear hb)
    | (refine wpList_store_mid rfl 106 (.tmp 5) (.tmp 9) rfl _ 0 (tabCells 256) rfl rfl (by rw [tab_size]; exact there_new _ _ (tab_size 0)) HSZ.out (tab_one 256) ?_))
  have HT := Lib.hid (tabAt_new w1)
  have HBW := Lib.hid (below_setCellsR (b := w1.heap.size) HB.out.size (tabCells 256).toList 0 _ (HB.out.alloc HB.out.size (.cells (tabCells 0) 106)))
  have HCW := Lib.hid (bytesAt_below HC.out HBW.out)
  generalize hW : (w1.alloc (Obj.cells (tabCells 0) 106)).setCells w1.heap.size 0 (tabCells 256).toList = W at *
  clear hW HC HB hz HSZ hn
  generalize w1.heap.size = g at *
  go_loop [6, 14] (fun n i => ∃ k : Nat, k ≤ l.length ∧ i = .int .i64 k ∧ n = .int .u32 (Crc.st (4294967295 - s) (l.take k) : Nat)) (fun _ i => l.length - (intOf i).toNat)
  case atStart => exact ⟨0, by omega, rfl, rfl⟩
  case round =>
    obtain ⟨k, hk, rfl, rfl⟩ := hrel
    have hy := Crc.st_lt (4294967295 - s) (l.take k) (by omega) (take_lt HL.out k)
    by_cases hlt : k < l.length
    · obtain ⟨b, hb⟩ := list_at l k hlt
      obtain ⟨hb8, ad, rfl, hcell⟩ := HCW.out k b hb
      have HN := Lib.hid (Crc.st_take (4294967295 - s) l k b hb)
      clear hb
      generalize Crc.st (4294967295 - s) (l.take k) = y at *
      have hj := xor8 y b hb8
      have hj8 := Crc.xor_lt256 (y % 256) b (by omega) hb8
      have htab := HT.out _ hj8
      have hv := Crc.e8_lt (y % 256 ^^^ b) (by omega)
      have HS := Lib.hid (Crc.byte_step y b hb8)
      generalize y % 256 ^^^ b = j at *
      generalize Crc.e8 j = v at *
      have hx := xorV y v hy hv
      go_wp2
      go_round
      case rel => exact ⟨k + 1, by omega, by go_num, u32_eq (by rw [HN.out, HS.out])⟩
      case measure => simp [intOf]; omega
    · obtain rfl : k = l.length := by omega
      rw [List.take_length] at hy
      rw [List.take_length]
      have HE : Hid (Crc.more s l = 4294967295 - Crc.st (4294967295 - s) l) := rfl
      generalize Crc.st (4294967295 - s) l = y at *
      have hn := notU y hy
      go_wp2
      go_ret
      exact ⟨by rw [HE.out]; rfl, HBW.out⟩

set_option maxHeartbeats 400000 in
theorem sum_any (A : Option Addr) (c : Nat) (l : List Nat) (w : World) (hl : l.length ≤ maxLen) (hc : BytesAt w A l) :
    Calls Try.prog 69 #[.slice A l.length c] w fun e w' => e = .returned (.int .u32 (Crc.more 0 l : Nat)) ∧ Below w.heap.size w w' := by
  have HC := Lib.hid hc
  clear hc
  go_enter Try.func69, Try.ntmps69
  go_wp2_with (go_at_call 68; refine (more_any 0 _ _ l _ (by omega) hl HC.out).mono ?_; rintro e w' ⟨rfl, hb⟩)
  go_ret
  exact ⟨rfl, hb⟩

end Go.Proofs.Ytoocifoglhhnmaa.Cc
