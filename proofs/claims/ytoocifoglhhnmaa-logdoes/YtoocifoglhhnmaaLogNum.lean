/- Contracts of package log: layNumber, number, isWiped, sectorsOf, and bytes.Equal. -/
import Derived.Test.YtoocifoglhhnmaaLogBase
namespace Go.Proofs.Ytoocifoglhhnmaa
open Go.RowKit
set_option linter.unusedVariables false

theorem be_cons (j x : Nat) : Lg.be (j + 1) x = UInt8.ofNat (x / 256 ^ j) :: Lg.be j x := by
  induction j generalizing x with
  | zero => simp [Lg.be]
  | succ j ih =>
    rw [Lg.be, ih (x / 256), Lg.be, Nat.div_div_eq_div_mul, Nat.pow_succ, Nat.mul_comm 256]
    rfl

theorem splice_set {α : Type} (L cs : List α) (o : Nat) (c : α) (h : o + 1 + cs.length ≤ L.length) : (splice L (o + 1) cs).set o c = splice L o (c :: cs) := by
  unfold splice
  obtain ⟨x, hx⟩ := some_at L o (by omega)
  have e : L.take (o + 1) = L.take o ++ [x] := by rw [List.take_add_one, hx]; rfl
  have hl : (L.take o).length = o := by rw [List.length_take]; omega
  rw [e, List.append_assoc, List.set_append, if_neg (by omega), hl, Nat.sub_self]
  simp only [List.cons_append, List.nil_append, List.set_cons_zero, List.length_cons]
  rw [show o + 1 + cs.length = o + (cs.length + 1) by omega]

theorem byte_of (x : Nat) : (x : Int) % 256 = ((UInt8.ofNat x).toNat : Int) := by
  rw [show (UInt8.ofNat x).toNat = x % 256 by simp]
  omega

/-- a block of bytes -/
def Blk (w : World) (p : Nat) (l : Dk.Bs) : Prop := w.heap[p]? = some (.cells (l.map bv).toArray 5 (0, 0))
theorem Blk.lt {w : World} {p : Nat} {l : Dk.Bs} (h : Blk w p l) : p < w.heap.size := (Array.getElem?_eq_some_iff.1 h).1
theorem Blk.bytes {F : Nat → Prop} {w : World} {p : Nat} {l : Dk.Bs} (h : Blk w p l) (hn : ¬ F p) : BytesIn F w (some ⟨p, 0, none⟩) l := CellsIn.of_block h hn
theorem Blk.keep {F : Nat → Prop} {w w' : World} {p : Nat} {l : Dk.Bs} (h : Blk w p l) (hk : Kept F w w') (hn : ¬ F p) : Blk w' p l := (hk.block p h.lt hn).trans h
theorem Blk.cell {w : World} {p k : Nat} {l : Dk.Bs} {b : UInt8} (h : Blk w p l) (hb : l[k]? = some b) : w.cell? ⟨p, k, none⟩ = some (.int .u8 (b.toNat : Int)) := by
  rw [cell_of_row w p k _ _ _ h]
  simp [hb, bv]
theorem Blk.fz {w : World} {p : Nat} {l : Dk.Bs} (h : Blk w p l) (k : Nat) : w.frozen? ⟨p, k, none⟩ = false := by unfold World.frozen?; rw [h]; simp
theorem Blk.set {w : World} {p : Nat} {l : Dk.Bs} (h : Blk w p l) (k : Nat) (b : UInt8) : Blk (w.setCell ⟨p, k, none⟩ (.int .u8 (b.toNat : Int))) p (l.set k b) := by
  unfold Blk
  rw [setCell_eq_setRow w p k _ _ _ _ h, setRow_heap w p _ _ _ _ h]
  simp only [List.setIfInBounds_toArray, List.map_set]
  rfl
theorem Blk.new (w : World) (l : Dk.Bs) : Blk (w.alloc (.cells (l.map bv).toArray 5)) w.heap.size l := heap_alloc_new w _

set_option maxHeartbeats 1000000 in
theorem layNumber_any (p off k c : Nat) (L : Dk.Bs) (x : Nat) (w : World) (h : Blk w p L) (hk : k ≤ 4) (hfit : off + k ≤ L.length) (hx : x < 4294967296) :
    Calls Try.prog 67 #[.slice (some ⟨p, off, none⟩) k c, .int .u32 x] w fun e w' => e = .returned (.tuple #[]) ∧ Blk w' p (splice L off (Lg.be k x)) ∧ Kept (fun i => i = p) w w' := by
  have H := Lib.hid h
  have HF := Lib.hid hfit
  clear h hfit
  go_enter Try.func67, Try.ntmps67
  go_wp2
  go_loopg [1, 4] k (fun gk s1 s4 W => ∃ (j : Nat), j + gk = k ∧ s1 = .int .u32 ((x / 256 ^ j : Nat) : Int) ∧ s4 = .int .i64 ((gk : Int) - 1) ∧ Hid (Blk W p (splice L (off + gk) (Lg.be j x))) ∧ Hid (Kept (fun i => i = p) w W))
  case atStart =>
    refine ⟨0, by omega, by simp, rfl, ?_, Kept.refl _ _⟩
    have : splice L (off + k) (Lg.be 0 x) = L := by simp [splice, Lg.be]
    rw [this]; exact H.out
  case round =>
    obtain ⟨j, hjk, rfl, rfl, HB, HK⟩ := hrel
    have hq : x / 256 ^ j < 4294967296 := Nat.lt_of_le_of_lt (Nat.div_le_self _ _) hx
    cases gk with
    | zero =>
      obtain rfl : j = k := by omega
      go_wp2
      go_end0
      exact ⟨rfl, by simpa using HB.out, HK.out⟩
    | succ r =>
      have e1 : ((r + 1 : Nat) : Int) - 1 = (r : Int) := by omega
      rw [e1]
      have HS : Hid ((splice L (off + (r + 1)) (Lg.be j x)).set (off + r) (UInt8.ofNat (x / 256 ^ j)) = splice L (off + r) (Lg.be (j + 1) x)) := by
        unfold Hid
        rw [be_cons]
        exact splice_set L (Lg.be j x) (off + r) _ (by rw [Lg.be_len]; have := HF.out; omega)
      have HQ : Hid (x / 256 ^ j / 256 = x / 256 ^ (j + 1)) := by unfold Hid; rw [Nat.div_div_eq_div_mul, Nat.pow_succ]
      obtain ⟨b, hb⟩ := some_at (splice L (off + (r + 1)) (Lg.be j x)) (off + r) (by have := HF.out; rw [length_splice _ _ _ (by rw [Lg.be_len]; omega)]; omega)
      have hc := HB.out.cell hb
      have hf := HB.out.fz (off + r)
      have HW := Lib.hid (byte_of (x / 256 ^ j))
      clear hb
      generalize x / 256 ^ j = y at *
      go_wp2
      go_roundg r
      case measure => omega
      case rel => exact ⟨j + 1, by omega, by rw [← HQ.out]; rfl, by first | rfl | go_num, by rw [← HS.out, HW.out]; exact Lib.hid (HB.out.set _ _), HK.out.setCell (p := ⟨p, off + r, none⟩) (.inl rfl) _⟩

theorem or_low (y c : Nat) (hy : y < 16777216) (hc : c < 256) : bits BinOp.or IntKind.i64 ((y : Int) * 256) (c : Int) = ((256 * y + c : Nat) : Int) := by
  have e : (y : Int) * 256 = ((256 * y : Nat) : Int) := by omega
  rw [e]
  show IntKind.i64.wrap ((BitVec.ofInt 64 ((256 * y : Nat) : Int) ||| BitVec.ofInt 64 (c : Int)).toNat : Int) = _
  have h1 : (BitVec.ofInt 64 ((256 * y : Nat) : Int)).toNat = 256 * y := by simp; omega
  have h2 : (BitVec.ofInt 64 (c : Int)).toNat = c := by simp; omega
  rw [BitVec.toNat_or, h1, h2]
  have h3 : 256 * y ||| c = 256 * y + c := by
    have := Nat.two_pow_add_eq_or_of_lt (i := 8) (b := c) hc y
    simp at this
    omega
  rw [h3, IntKind.wrap_i64]
  omega

set_option maxHeartbeats 1000000 in
theorem number_any (F : Nat → Prop) (A : Option Addr) (m c : Nat) (l : Dk.Bs) (w : World) (hm : l.length = m) (h4 : m ≤ 4) (hb : BytesIn F w A l) :
    Calls Try.prog 72 #[.slice A m c] w fun e w' => e = .returned (.int .i64 (Lg.num l : Nat)) ∧ w = w' := by
  have HB := Lib.hid hb
  have HM := Lib.hid hm
  clear hb hm
  go_enter Try.func72, Try.ntmps72
  go_wp2
  go_loopg [3, 8] m (fun gk s3 s8 W => ∃ (k : Nat), k + gk = m ∧ s3 = .int .i64 ((Lg.num (l.take k) : Nat) : Int) ∧ s8 = .int .i64 k ∧ W = w)
  case atStart => exact ⟨0, by omega, rfl, rfl, rfl⟩
  case round =>
    obtain ⟨k, hkg, rfl, rfl, rfl⟩ := hrel
    cases gk with
    | zero =>
      obtain rfl : k = m := by omega
      have HE : Hid (l.take k = l) := List.take_of_length_le (by rw [HM.out]; exact Nat.le_refl _)
      rw [HE.out]
      go_wp2
      go_ret
      exact ⟨rfl, rfl⟩
    | succ r =>
      obtain ⟨b, hb⟩ := some_at l k (by rw [HM.out]; omega)
      obtain ⟨ad, rfl, _, _, hc⟩ := BytesIn.at_ HB.out hb
      have HN := Lib.hid (Lg.num_take l k b hb)
      have hlt : Lg.num (l.take k) < 16777216 := by
        have h1 := Lg.num_lt (l.take k)
        have h2 : (l.take k).length ≤ 3 := by rw [List.length_take]; omega
        have h3 := Nat.pow_le_pow_right (n := 256) (by omega) h2
        omega
      have hb8 := b.toNat_lt
      clear hb
      generalize Lg.num (l.take k) = y at *
      have ho := or_low y b.toNat hlt hb8
      go_wp2
      go_roundg r
      case measure => omega
      case rel => exact ⟨k + 1, by omega, by rw [HN.out]; try rfl, by first | rfl | go_num, rfl⟩

set_option maxHeartbeats 1000000 in
theorem isWiped_any (F : Nat → Prop) (A : Option Addr) (m c : Nat) (l : Dk.Bs) (w : World) (hm : l.length = m) (h4 : m ≤ 100000) (hb : BytesIn F w A l) :
    Calls Try.prog 64 #[.slice A m c] w fun e w' => e = .returned (.bool (decide (l = Lg.zeros m))) ∧ w = w' := by
  have HB := Lib.hid hb
  have HM := Lib.hid hm
  have HT : Hid ((∀ i, i < m → l[i]? = some 0) → decide (l = Lg.zeros m) = true) := fun h => decide_eq_true (List.ext_getElem? fun i => by
    unfold Lg.zeros
    rw [List.getElem?_replicate]
    by_cases hi : i < m
    · rw [if_pos hi]; exact h i hi
    · rw [if_neg hi, List.getElem?_eq_none (by omega)])
  have HF : Hid (∀ i b, i < m → l[i]? = some b → b ≠ 0 → decide (l = Lg.zeros m) = false) := fun i b hi hb hne => decide_eq_false (fun e => by
    rw [e] at hb
    unfold Lg.zeros at hb
    rw [List.getElem?_replicate, if_pos hi] at hb
    exact hne (Option.some.inj hb).symm)
  clear hb hm
  generalize decide (l = Lg.zeros m) = r at *
  go_enter Try.func64, Try.ntmps64
  go_wp2
  go_loopg [2, 7] m (fun gk s2 s7 W => ∃ (k : Nat), k + gk = m ∧ s2 = .bool false ∧ s7 = .int .i64 k ∧ W = w ∧ Hid (∀ i, i < k → l[i]? = some 0))
  case atStart => exact ⟨0, by omega, rfl, rfl, rfl, fun i hi => by omega⟩
  case round =>
    obtain ⟨k, hkg, rfl, rfl, rfl, HZ⟩ := hrel
    cases gk with
    | zero =>
      obtain rfl : k = m := by omega
      go_wp2
      go_ret
      exact ⟨by rw [HT.out HZ.out]; rfl, rfl⟩
    | succ q =>
      obtain ⟨b, hb⟩ := some_at l k (by rw [HM.out]; omega)
      obtain ⟨ad, rfl, _, _, hc⟩ := BytesIn.at_ HB.out hb
      by_cases h0 : b = 0
      · subst h0
        have HZ2 : Hid (∀ i, i < k + 1 → l[i]? = some 0) := fun i hi => by
          by_cases e : i < k
          · exact HZ.out i e
          · obtain rfl : i = k := by omega
            exact hb
        have d1 : (((0 : UInt8).toNat : Int) != 0) = false := by decide
        have hc' : wr.cell? (ad.add k) = some (.int .u8 0) := hc
        clear hb hc
        go_wp2
        go_roundg q
        case measure => omega
        case rel => exact ⟨k + 1, by omega, rfl, by first | rfl | go_num, rfl, HZ2.out⟩
      · have HF2 := Lib.hid (HF.out k b (by omega) hb h0)
        have d1 : ((b.toNat : Int) != 0) = true := bne_iff_ne.2 (fun e => h0 (UInt8.toNat_inj.1 (by simpa using e)))
        clear hb h0
        go_wp2
        go_ret
        exact ⟨by rw [HF2.out]; rfl, rfl⟩

theorem secs_int (m : Nat) : (1 : Int) + (max ((m : Int) - 17) 0 + 32 - 1) / 32 = ((Lg.secs m : Nat) : Int) := by
  unfold Lg.secs
  omega

set_option maxHeartbeats 400000 in
theorem sectorsOf_any (m : Nat) (w : World) (hm : m ≤ 9000000000000000000) :
    Calls Try.prog 42 #[.int .i64 m] w fun e w' => e = .returned (.int .i64 (Lg.secs m : Nat)) ∧ w = w' := by
  have HS := Lib.hid (secs_int m)
  go_enter Try.func42, Try.ntmps42
  go_wp2
  all_goals
    go_ret
    exact ⟨congrArg _ (int_eq (by have := HS.out; omega)), rfl⟩

set_option maxHeartbeats 400000 in
theorem equal_any (F : Nat → Prop) (A B : Option Addr) (m k c d : Nat) (a b : Dk.Bs) (w : World) (hm : a.length = m) (hk : b.length = k) (ha : BytesIn F w A a) (hb : BytesIn F w B b) :
    Calls Try.prog 73 #[.slice A m c, .slice B k d] w fun e w' => e = .returned (.bool (decide (a = b))) ∧ w = w' := by
  subst hm hk
  have h1 := conv_str F w A a c ha
  have h2 := conv_str F w B b d hb
  have HE : Hid ((a == b) = decide (a = b)) := by
    unfold Hid
    by_cases e : a = b
    · rw [decide_eq_true e, beq_iff_eq]; exact e
    · rw [decide_eq_false e, beq_eq_false_iff_ne]; exact e
  clear ha hb
  generalize decide (a = b) = r at *
  go_enter Try.func73, Try.ntmps73
  go_wp2
  go_ret
  exact ⟨by rw [← HE.out]; rfl, rfl⟩

end Go.Proofs.Ytoocifoglhhnmaa
