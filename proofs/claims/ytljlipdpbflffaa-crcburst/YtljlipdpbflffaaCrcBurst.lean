/- Every call of the law that sums differ just where some of up to 32 bits, one behind the other, are turned answers true: for all bytes (up to 2000 of them are held), every bit and every pattern. No conditions. -/
import Derived.Test.YtljlipdpbflffaaCrcHeld
import Derived.Deep.RegionHeld3
import Derived.Deep.LoopGhost
import Derived.BigRegion
import Derived.Test.YtljlipdpbflffaaRows
import Derived.WalkKit
import Derived.ProofKit
import Derived.OpenShut
import Derived.ShutString
import Derived.ChangeOld
import Derived.Below
namespace Go.Proofs.Ytljlipdpbflffaa.crcBurst
open Go.ChangeShapes Go.WideShapes Go.ChangeAt Go.RowKit
open Go.ChangeMaps (open_string shut_string)
set_option linter.unusedVariables false

theorem own : ownKnob Try.prog.godebug = none := by kernel_rfl
theorem laidOut : laidOutB Try.prog = true := by kernel_rfl

/-- WHAT THE WALK IS TOLD OF A SLICE OF INTEGERS THAT CAME IN: it is nil; or it leads to a row of 'cap' cells, the numbers 'zs' (the first 'len' are its elements, the rest its spare room), each fitting its kind. -/
def IsRow (k : IntKind) (w : World) (a : Option Addr) (len cap : Nat) (zs : List Int) : Prop :=
  (a = none ∧ len = 0 ∧ cap = 0 ∧ zs = []) ∨
  ∃ x, a = some x ∧ len ≤ cap ∧ cap ≤ maxLen ∧ zs.length = cap ∧ (∀ i, i < zs.length → w.cell? (x.add i) = some (.int k (zs.getD i 0))) ∧ ∀ n ∈ zs, (Lit.int k n).wf = true

def bv (b : Nat) : Value := .int .u8 (b : Int)

/-- The law's own row: c, and room behind it. -/
def Own (W : World) (g cap : Nat) (c : List Nat) : Prop :=
  ∃ cur : Array Value, W.heap[g]? = some (.cells cur 5 (0, 0)) ∧ cur.size = cap ∧ c.length ≤ cap ∧ ∀ k b : Nat, c[k]? = some b → cur[k]? = some (bv b)

theorem Own.cell {W : World} {g cap : Nat} {c : List Nat} (h : Own W g cap c) {k b : Nat} (hk : c[k]? = some b) : W.cell? ⟨g, k, none⟩ = some (bv b) := by
  obtain ⟨cur, h1, _, _, h4⟩ := h
  rw [cell_of_row W g k cur _ _ h1]
  exact h4 k b hk

theorem Own.frozen {W : World} {g cap : Nat} {c : List Nat} (h : Own W g cap c) (k : Nat) : W.frozen? ⟨g, k, none⟩ = false := by
  obtain ⟨cur, h1, _⟩ := h
  unfold World.frozen?; rw [h1]; simp

theorem Own.bytes {W : World} {g cap : Nat} {c : List Nat} (h : Own W g cap c) (hc : ∀ b ∈ c, b < 256) : BytesAt W (some ⟨g, 0, none⟩) c := by
  intro k b hk
  refine ⟨hc b (List.mem_of_getElem? hk), _, rfl, ?_⟩
  rw [Addr.add_mid, Nat.zero_add]
  exact h.cell hk

theorem Own.set {W : World} {g cap : Nat} {c : List Nat} (h : Own W g cap c) (q v : Nat) : Own (W.setCell ⟨g, q, none⟩ (bv v)) g cap (c.set q v) := by
  obtain ⟨cur, h1, h2, h3, h4⟩ := h
  refine ⟨cur.setIfInBounds q (bv v), ?_, by rw [Array.size_setIfInBounds]; exact h2, by rw [List.length_set]; exact h3, ?_⟩
  · rw [setCell_eq_setRow W g q cur _ _ (bv v) h1]
    exact setRow_heap W g _ _ _ _ h1
  · intro k b hk
    rw [Array.getElem?_setIfInBounds]
    by_cases e : q = k
    · subst e
      have hl : q < c.length := by have := (List.getElem?_eq_some_iff.1 hk).1; rw [List.length_set] at this; exact this
      rw [List.getElem?_set_self hl] at hk
      obtain rfl := Option.some.inj hk
      rw [if_pos rfl, if_pos (by omega)]
    · rw [if_neg e]
      rw [List.getElem?_set_ne e] at hk
      exact h4 k b hk

theorem Own.drew {W : World} {g cap : Nat} {c : List Nat} (h : Own W g cap c) : Own W.drew g cap c := h
theorem Own.below {W W' : World} {g cap B : Nat} {c : List Nat} (h : Own W g cap c) (hb : Below B W W') (hg : g < B) : Own W' g cap c := by
  obtain ⟨cur, h1, h2⟩ := h
  exact ⟨cur, (hb.block g hg).trans h1, h2⟩

theorem byte_info : (Try.prog.info? 5).map (fun i => (i.zero, i.size, i.bytes)) = some (some (.int .u8 0), 1, 1) := by kernel_rfl

theorem own_start {W : World} {B n : Nat} {v : Value} {l : List Nat} (h : W.ownsRow B 5 1 v (0 + n) ([] ++ l.map bv)) (hn : l.length = n) (h0 : 0 < n) :
    ∃ g cap, v = .slice (some ⟨g, 0, none⟩) n cap ∧ B ≤ g ∧ g < W.heap.size ∧ n ≤ cap ∧ cap ≤ maxLen ∧ Own W g cap l := by
  rw [Nat.zero_add, List.nil_append] at h
  rcases h.2 with ⟨_, h2⟩ | ⟨g, cap, cur, h1, h2, h3, h4, h5, h6, h7⟩
  · omega
  · refine ⟨g, cap, h1, h2, (Array.getElem?_eq_some_iff.1 h3).1, h4, h5, cur, h3, by omega, by omega, ?_⟩
    intro k b hk
    have hk2 : k < n := by have := (List.getElem?_eq_some_iff.1 hk).1; omega
    have : (cur.toList.take (n * 1))[k]? = some (bv b) := by rw [h7, List.getElem?_map, hk]; rfl
    rw [List.getElem?_take_of_lt (by omega)] at this
    rw [← Array.getElem?_toList]; exact this

theorem own_row (w0 : World) : ∀ k, (Value.slice (some ⟨w0.heap.size, 0, none⟩) 0 0).ownBlock = some k → w0.heap.size ≤ k := by
  intro k hk
  simp only [Value.ownBlock, Option.some.injEq] at hk
  omega

/-- what holds behind i of the bits: c is the bytes with these turned; m: some were -/
def Turned (l : List Nat) (a t i : Nat) (c : List Nat) (m : Bool) : Prop :=
  c.length = l.length ∧ (∀ b ∈ c, b < 256) ∧ m = decide (t % 2 ^ i ≠ 0) ∧ Crc.st 4294967295 c = Crc.st 4294967295 l ^^^ Crc.Tn (8 * l.length - a) (t % 2 ^ i)

theorem Tn_zero (k : Nat) : Crc.Tn k 0 = 0 := by
  induction k with
  | zero => rfl
  | succ k ih => rw [Crc.Tn]; exact ih

theorem turn_start (l : List Nat) (a : Nat) (hl : ∀ b ∈ l, b < 256) (t : Nat) : Turned l a t 0 l false := by
  refine ⟨rfl, hl, ?_, ?_⟩
  · simp [Nat.mod_one]
  · rw [Nat.pow_zero, Nat.mod_one, Tn_zero, Nat.xor_zero]

theorem turn_not (l : List Nat) (a t i : Nat) (c : List Nat) (m : Bool) (h : Turned l a t i c m) (hb : t / 2 ^ i % 2 ≠ 1) : Turned l a t (i + 1) c m := by
  obtain ⟨h1, h2, h3, h4⟩ := h
  have := Crc.low_bits t i
  rw [if_neg hb] at this
  exact ⟨h1, h2, by rw [this]; exact h3, by rw [this]; exact h4⟩

theorem turn_bit (l : List Nat) (a t i : Nat) (c : List Nat) (m : Bool) (h : Turned l a t i c m) (hi : i < 32) (hai : a + i < 8 * l.length) (hb : t / 2 ^ i % 2 = 1) :
    Turned l a t (i + 1) (Crc.flip c ((a + i) / 8) ((a + i) % 8)) true := by
  obtain ⟨h1, h2, h3, h4⟩ := h
  have hlow := Crc.low_bits t i
  rw [if_pos hb] at hlow
  refine ⟨by rw [Crc.flip_length]; exact h1, Crc.flip_lt _ _ _ (by omega) h2, ?_, ?_⟩
  · have hne : t % 2 ^ (i + 1) ≠ 0 := by
      rw [hlow]
      intro e
      have h5 := Crc.xor_zero_of _ _ e
      have h6 : t % 2 ^ i < 2 ^ i := Nat.mod_lt _ (Nat.pow_pos (by omega))
      omega
    exact (decide_eq_true hne).symm
  · rw [hlow]; exact Crc.burst_step _ l c a i _ hi h1 hai h4

theorem turn_end (l : List Nat) (a t i : Nat) (c : List Nat) (m : Bool) (h : Turned l a t i c m) (ht : t < 4294967296) (hl : ∀ b ∈ l, b < 256) : (((Crc.more 0 c : Nat) : Int) == ((Crc.more 0 l : Nat) : Int)) = !m := by
  obtain ⟨h1, h2, h3, h4⟩ := h
  have hp : t % 2 ^ i < 4294967296 := Nat.lt_of_le_of_lt (Nat.mod_le _ _) ht
  have he := Crc.burst_end 4294967295 l c _ _ hp h4
  have s1 := Crc.st_lt 4294967295 c (by omega) h2
  have s2 := Crc.st_lt 4294967295 l (by omega) hl
  unfold Crc.more
  rw [Nat.sub_zero]
  generalize Crc.st 4294967295 c = x at *
  generalize Crc.st 4294967295 l = y at *
  subst h3
  by_cases hz : t % 2 ^ i = 0
  · have : x = y := by
      rcases Nat.decEq x y with h | h
      · exact absurd hz (he.1 h)
      · exact h
    subst this
    simp [hz]
  · have : x ≠ y := he.2 hz
    have e1 : (((4294967295 - x : Nat) : Int) == ((4294967295 - y : Nat) : Int)) = false := beq_eq_false_iff_ne.2 (by omega)
    rw [e1]; simp [hz]

theorem bit_of (t i : Nat) (ht : t < 4294967296) : bits BinOp.and IntKind.u32 ((t : Int) / 2 ^ i) 1 = ((t / 2 ^ i % 2 : Nat) : Int) := by
  have h : t / 2 ^ i < 4294967296 := Nat.lt_of_le_of_lt (Nat.div_le_self _ _) ht
  have := and1 (t / 2 ^ i) h
  rw [Int.natCast_ediv, Int.natCast_pow] at this
  exact this

theorem bit_yes (t i : Nat) (ht : t < 4294967296) (h : t / 2 ^ i % 2 = 1) : (bits BinOp.and IntKind.u32 ((t : Int) / 2 ^ i) 1 == 1) = true := by
  rw [bit_of t i ht, h]; rfl
theorem bit_no (t i : Nat) (ht : t < 4294967296) (h : ¬ t / 2 ^ i % 2 = 1) : (bits BinOp.and IntKind.u32 ((t : Int) / 2 ^ i) 1 == 1) = false := by
  rw [bit_of t i ht, show t / 2 ^ i % 2 = 0 by omega]; rfl

theorem xor_bit (b r : Nat) (hb : b < 256) (hr : r < 8) : bits BinOp.xor IntKind.u8 (b : Int) (2 ^ r % 256) = ((b ^^^ 2 ^ r : Nat) : Int) := by
  have h2 : 2 ^ r < 256 := Nat.pow_lt_pow_of_lt (a := 2) (m := 8) (by omega) hr
  have h := u8_xor_nat b (2 ^ r % 256) hb (by omega)
  rw [Int.natCast_emod, Int.natCast_pow] at h
  rw [Nat.mod_eq_of_lt h2] at h
  exact h

theorem own_flip {W : World} {g cap : Nat} {c : List Nat} (h : Own W g cap c) {q b : Nat} (hq : c[q]? = some b) (r : Nat) :
    Own (W.setCell ⟨g, q, none⟩ (.int .u8 ((b ^^^ 2 ^ r : Nat) : Int))).drew g cap (Crc.flip c q r) := by
  have e : Crc.flip c q r = c.set q (b ^^^ 2 ^ r) := by unfold Crc.flip; rw [List.getD_eq_getElem?_getD, hq]; rfl
  rw [e]
  exact (h.set q (b ^^^ 2 ^ r)).drew

theorem sum_at (A : Option Addr) (n c : Nat) (l : List Nat) (W : World) (hn : l.length = n) (hl : n ≤ 2000) (hc : BytesAt W A l) :
    Calls Try.prog 8 #[.slice A n c] W fun e w' => e = .returned (.int .u32 (Crc.more 0 l : Nat)) ∧ Below W.heap.size W w' := by
  subst hn
  exact sum_any A c l W (by unfold maxLen; omega) hc

theorem bool_end {a b : Int} {m : Bool} (h : (a == b) = !m) : ((a != b) == m) = true := by
  unfold bne; rw [h]; cases m <;> rfl

theorem info_parts5 {i : Option TypeInfo} {z : Value} {s b : Nat} (h : i.map (fun i => (i.zero, i.size, i.bytes)) = some (some z, s, b)) : ∃ j, i = some j ∧ j.zero = some z ∧ j.size = s ∧ j.bytes = b := by
  cases i with
  | none => simp at h
  | some j => simp at h; exact ⟨j, rfl, h.1, h.2.1, h.2.2⟩

set_option maxHeartbeats 4000000 in
set_option maxRecDepth 100000 in
theorem walkIn (ad : Addr) (cap at_ t : Nat) (l : List Nat) (w : World) (ht : t < 4294967296) (hl : l.length ≤ 2000) (hlc : l.length ≤ cap) (hcm : cap ≤ maxLen) (hat : at_ < 8 * l.length) (hb : BytesAt w (some ad) l) :
    Calls Try.prog 5 #[.slice (some ad) l.length cap, .int .i64 at_, .int .u32 t] w fun e w' => e = .returned (.bool true) ∧ Below w.heap.size w w' := by
  have HL := Lib.hid (bytesAt_lt hb)
  have HH := Lib.hid (HeldB.start hb)
  unfold maxLen at hcm
  clear hb
  obtain ⟨i0, hi0, hz0, hz1, hz2⟩ := info_parts5 byte_info
  have HI := Lib.hid hi0
  have HZ0 := Lib.hid hz0
  have HZ1 := Lib.hid hz1
  have HZ2 := Lib.hid hz2
  clear hi0 hz0 hz1 hz2
  have d1 : decide ((2000 : Int) < (l.length : Int)) = false := decide_eq_false (by omega)
  have d2 : decide ((at_ : Int) < 0) = false := decide_eq_false (by omega)
  have d3 : decide (8 * (l.length : Int) ≤ (at_ : Int)) = false := decide_eq_false (by omega)
  go_enter Try.func5, Try.ntmps5
  go_wp2_with (first
    | (go_at_call 6; refine (awake_held (some ad) l w _ HH.out).mono ?_; rintro e w0 ⟨rfl, hh0⟩; have HH0 := Lib.hid hh0; clear hh0)
    | (at_builtin
       refine wpList_append_own _ rfl (.tmp 26) (.tmp 27) 23 rfl w0.heap.size 5 i0 _ 1 1 Try.underlying23 HI.out HZ0.out HZ1.out HZ2.out rfl (by omega) _ 0 [] rfl
         ⟨rfl, .inr ⟨w0.heap.size, 0, #[], rfl, Nat.le_refl _, heap_alloc_last _ _, Nat.le_refl _, by decide, rfl, rfl⟩⟩ ad l.length cap (l.map bv) rfl (by rw [List.length_map, Nat.mul_one])
         (fun j u hj => by
            rw [List.getElem?_map] at hj
            cases e : l[j]? with
            | none => rw [e] at hj; simp at hj
            | some b =>
              rw [e] at hj
              obtain rfl := Option.some.inj hj
              obtain ⟨_, ad', e1, hc⟩ := HH0.out.2 j b e
              obtain rfl := Option.some.inj e1
              rw [World.cell?_alloc_lt _ _ _ (lt_of_cell hc)]; exact hc)
         (fun u hu => by obtain ⟨b, _, rfl⟩ := List.mem_map.1 hu; rfl)
         (by simp only [maxLen]; omega) (by omega) (by simp) ?_
       intro v1 w1 hown hgr _
       have HB1 : Hid (Below w0.heap.size w0 w1) := ((Below.refl _ _).alloc (Nat.le_refl _) _).grown hgr (by simp) (own_row w0)
       obtain ⟨g, cap1, rfl, hg0, hg1, hc1, hc2, hown1⟩ := own_start hown rfl (by omega)
       have HO := Lib.hid hown1
       clear hown hgr hown1))
  have HST := Lib.hid (turn_start l at_ HL.out t)
  clear d1 d2 d3 HI HZ0 HZ1 HZ2 HH i0
  unfold maxLen at hc2
  generalize hlen : l.length = n at *
  have HLEN := Lib.hid hlen
  clear hlen
  go_loopg [8, 9] 32 (fun gk s8 s9 W => ∃ (i : Nat) (c : List Nat) (m : Bool), i + gk = 32 ∧ s9 = .int .i64 i ∧ s8 = .bool m ∧ Hid (Turned l at_ t i c m) ∧ Hid (Own W g cap1 c) ∧ Hid (Below w0.heap.size w0 W))
  case atStart => exact ⟨0, l, false, by omega, rfl, rfl, HST.out, HO.out, HB1.out⟩
  case round =>
    obtain ⟨i, c, m, hig, rfl, rfl, HT, HOW, HBW⟩ := hrel
    by_cases h1 : i < 32 ∧ at_ + i < 8 * n
    · obtain ⟨h1, h2⟩ := h1
      obtain ⟨gk, rfl⟩ : ∃ j, gk = j + 1 := ⟨gk - 1, by omega⟩
      have hclen : Hid (c.length = n) := by rw [← HLEN.out]; exact HT.out.1
      have hq : (at_ + i) / 8 < n := by omega
      by_cases hbit : t / 2 ^ i % 2 = 1
      · have hbb : (bits BinOp.and IntKind.u32 ((t : Int) / 2 ^ i) 1 == 1) = true := bit_yes t i ht hbit
        have HTN := Lib.hid (turn_bit l at_ t i c m HT.out h1 (by rw [HLEN.out]; exact h2) hbit)
        obtain ⟨b, hcb⟩ := list_at c ((at_ + i) / 8) (by rw [hclen.out]; exact hq)
        have hcell : wr.cell? ⟨g, (at_ + i) / 8, none⟩ = some (.int .u8 (b : Int)) := HOW.out.cell hcb
        have hfz := HOW.out.frozen ((at_ + i) / 8)
        have hb8 := HT.out.2.1 b (List.mem_of_getElem? hcb)
        have HCB := Lib.hid hcb
        clear hbit hcb
        have hxr := xor_bit b ((at_ + i) % 8) hb8 (by omega)
        go_wp2
        go_region
        go_wp2
        go_roundg gk
        case measure => omega
        case rel => exact ⟨i + 1, _, true, by omega, by first | rfl | go_num, rfl, HTN.out, own_flip HOW.out HCB.out _, (HBW.out.setCell (p := ⟨g, (at_ + i) / 8, none⟩) hg0 _).drew⟩
      · have hbb : (bits BinOp.and IntKind.u32 ((t : Int) / 2 ^ i) 1 == 1) = false := bit_no t i ht hbit
        have HTN := Lib.hid (turn_not l at_ t i c m HT.out hbit)
        clear hbit
        go_wp2
        go_roundg gk
        case measure => omega
        case rel => exact ⟨i + 1, c, m, by omega, by first | rfl | go_num, rfl, HTN.out, HOW.out, HBW.out⟩
    · have HE := Lib.hid (turn_end l at_ t i c m HT.out ht HL.out)
      have HB1' := Lib.hid (HOW.out.bytes HT.out.2.1)
      have HB2' := Lib.hid (bytesAt_below HH0.out.2 HBW.out)
      have hclen : Hid (c.length = n) := by rw [← HLEN.out]; exact HT.out.1
      have HBB := Lib.hid (HH0.out.1.trans (HBW.out.mono HH0.out.1.size))
      have hs1 := sum_at (some ⟨g, 0, none⟩) n cap1 c wr hclen.out hl HB1'.out
      have HS1 := Lib.hid hs1
      clear hs1
      by_cases h2 : i < 32
      · have e1 : decide ((i : Int) < 32) = true := decide_eq_true (by omega)
        have e2 : decide ((at_ : Int) + (i : Int) < 8 * (n : Int)) = false := decide_eq_false (by omega)
        clear h1
        go_wp2_with fail
        refine HS1.out.mono ?_
        rintro e w2 ⟨rfl, hb2⟩
        have HS2 := Lib.hid (sum_at (some ad) n cap l w2 HLEN.out hl (bytesAt_below HB2'.out hb2))
        have HB2 := Lib.hid hb2
        clear hb2
        go_wp2_with fail
        refine HS2.out.mono ?_
        rintro e w3 ⟨rfl, hb3⟩
        have HB3 := Lib.hid hb3
        clear hb3
        go_wp2
        go_ret
        exact ⟨congrArg (fun z => Ending.returned (.bool z)) (bool_end HE.out), HBB.out.trans ((HB2.out.trans (HB3.out.mono HB2.out.size)).mono HBB.out.size)⟩
      · have e1 : decide ((i : Int) < 32) = false := decide_eq_false (by omega)
        clear h1
        go_wp2_with fail
        refine HS1.out.mono ?_
        rintro e w2 ⟨rfl, hb2⟩
        have HS2 := Lib.hid (sum_at (some ad) n cap l w2 HLEN.out hl (bytesAt_below HB2'.out hb2))
        have HB2 := Lib.hid hb2
        clear hb2
        go_wp2_with fail
        refine HS2.out.mono ?_
        rintro e w3 ⟨rfl, hb3⟩
        have HB3 := Lib.hid hb3
        clear hb3
        go_wp2
        go_ret
        exact ⟨congrArg (fun z => Ending.returned (.bool z)) (bool_end HE.out), HBB.out.trans ((HB2.out.trans (HB3.out.mono HB2.out.size)).mono HBB.out.size)⟩

set_option maxHeartbeats 1000000 in
theorem walk_out (A : Option Addr) (n c : Nat) (a1 a2 : Int) (w : World) (hn : n ≤ maxLen) (h : 2000 < n ∨ (a1 < 0 ∨ 8 * (n : Int) ≤ a1)) :
    Calls Try.prog 5 #[.slice A n c, .int .i64 a1, .int .u32 a2] w fun e w' => e = .returned (.bool true) ∧ Below w.heap.size w w' := by
  unfold maxLen at hn
  by_cases h1 : 2000 < n
  · have d1 : decide ((2000 : Int) < (n : Int)) = true := decide_eq_true (by omega)
    go_enter Try.func5, Try.ntmps5
    go_wp2_with (go_at_call 6; refine (awake_any _).mono ?_; rintro e w1 ⟨rfl, hb1⟩)
    go_ret
    exact ⟨rfl, hb1⟩
  · have d1 : decide ((2000 : Int) < (n : Int)) = false := decide_eq_false (by omega)
    by_cases h2 : a1 < 0
    · have d2 : decide (a1 < 0) = true := decide_eq_true h2
      go_enter Try.func5, Try.ntmps5
      go_wp2_with (go_at_call 6; refine (awake_any _).mono ?_; rintro e w1 ⟨rfl, hb1⟩)
      go_ret
      exact ⟨rfl, hb1⟩
    · have d2 : decide (a1 < 0) = false := decide_eq_false h2
      have d3 : decide (8 * (n : Int) ≤ a1) = true := decide_eq_true (by omega)
      go_enter Try.func5, Try.ntmps5
      go_wp2_with (go_at_call 6; refine (awake_any _).mono ?_; rintro e w1 ⟨rfl, hb1⟩)
      go_ret
      exact ⟨rfl, hb1⟩

theorem walk (a0 : Option Addr) (len0 cap0 : Nat) (z0 : List Int) (a1 a2 : Int) (w : World) (w0 : IsRow .u8 w a0 len0 cap0 z0) (w1 : (Lit.int .i64 a1).wf = true) (w2 : (Lit.int .u32 a2).wf = true) :
    Calls Try.prog 5 #[.slice a0 len0 cap0, .int .i64 a1, .int .u32 a2] w fun e w' => e = .returned (.bool true) ∧ Below w.heap.size w w' := by
  obtain ⟨l, hlen, hlc, hcm, hb, hnone⟩ := bytes_of w a0 len0 cap0 z0 w0
  obtain ⟨t, ht, rfl⟩ := u32_of a2 w2
  by_cases hout : 2000 < len0 ∨ (a1 < 0 ∨ 8 * (len0 : Int) ≤ a1)
  · exact walk_out _ _ _ _ _ _ (by omega) hout
  · obtain ⟨k, rfl⟩ := Int.eq_ofNat_of_zero_le (show 0 ≤ a1 by omega)
    subst hlen
    cases a0 with
    | none => have := hnone rfl; omega
    | some ad => exact walkIn ad cap0 k t l w ht (by omega) hlc hcm (by omega) hb

set_option maxRecDepth 100000 in
theorem lifted (os : Os) (started : os.Started) (H : Type) (enc : TypeId × Value → H) :
    ReturnsInHanded {} Try.checked os 5 .any (Rows.crcBurstSpec.pre6 enc Try.prog Try.f5 Rows.crcBurstRow.domain false) (Rows.crcBurstSpec.post enc Try.prog Try.f5 false true false false) := by
  refine returnsInHanded_of_change (C := Try.checked) own started (by kernel_rfl) Try.func5
    (ChangeSpec.witness6 (enc := enc) (C := Try.checked) false ⟨#[], #[.slice none 0 0, .int .i64 0, .int .u32 0], []⟩ 8 (by kernel_rfl) (by kernel_rfl) (by kernel_rfl) (by kernel_rfl)) ?_
  intro W base args ds gs before hval0 hW hcnd _
  have hval : ∀ (j : Nat) t v, Try.f5.params[j]? = some t → args[j]? = some v → Value.okWide Try.prog W .any base t v := hval0
  have hW' := hW
  obtain ⟨p, q, hA0, hV, rfl, hfz, hnd⟩ := hW
  have hA : DataW.TrodAll enc Try.prog W 0 (fun _ => true) true Try.f5.params.toList args.toList ds p := hA0
  rw [Try.params5] at hA hval
  obtain ⟨v0, vs0, d0, ds0, p0, q0, hargs, rfl, rfl, h0, r0⟩ := trodAll_cons hA
  obtain ⟨v1, vs1, d1, ds1, p1, q1, rfl, rfl, rfl, h1, r1⟩ := trodAll_cons r0
  obtain ⟨v2, vs2, d2, ds2, p2, q2, rfl, rfl, rfl, h2, r2⟩ := trodAll_cons r1
  obtain ⟨rfl, rfl, rfl⟩ := trodAll_nil r2
  obtain rfl : args = #[v0, v1, v2] := by cases args; simp_all
  obtain ⟨rfl, rfl⟩ := trodVars_none hV
  obtain ⟨a0, len0, cap0, rfl⟩ := okWide_slice Try.underlying23 (hval 0 23 v0 rfl rfl)
  have k0 := h0
  have lt0 : ∀ x ∈ p0, x.block < W.heap.size := by obtain ⟨m, hm⟩ := k0; exact DataW.trod_lt m _ _ _ hm
  obtain ⟨z0, w0⟩ : ∃ zs, IsRow .u8 W a0 len0 cap0 zs := by
    obtain ⟨fuel, hf⟩ := h0
    rcases open_ints Try.underlying23 Try.underlying5 (by kernel_rfl) hf with ⟨hcs, _⟩ | ⟨x, l, c, zs, hcs, _, hl, hm, hz, _, hcell, hwz⟩
    · simp [Value.cells] at hcs
      obtain ⟨rfl, rfl, rfl⟩ := hcs
      exact ⟨[], .inl ⟨rfl, rfl, rfl, rfl⟩⟩
    · simp [Value.cells] at hcs
      obtain ⟨rfl, rfl, rfl⟩ := hcs
      exact ⟨zs, .inr ⟨_, rfl, hl, hm, by simpa using hz, hcell, hwz⟩⟩
  obtain ⟨a1, rfl, rfl, rfl, w1⟩ := open_int Try.underlying3 (hval 1 3 v1 rfl rfl) h1
  obtain ⟨a2, rfl, rfl, rfl, w2⟩ := open_int Try.underlying22 (hval 2 22 v2 rfl rfl) h2
  clear hA0 hval0
  refine (walk a0 len0 cap0 z0 a1 a2 W w0 w1 w2).mono fun e W' ⟨he, bel⟩ => ?_
  subst he
  exact ⟨_, rfl, _, _, _, [], _, [], hW', trodAll_mk1 (shut_bool Try.underlying4 _), (trodAll_cons_mk (Below.trod laidOut (by kernel_rfl) (of_decide_eq_true (by kernel_rfl)) k0 bel lt0) (trodAll_cons_mk (shut_int Try.underlying3 w1) (trodAll_cons_mk (shut_int Try.underlying22 w2) trodAll_mk0))), rfl, bel.frame _, fun h => by cases h⟩

theorem over : Rows.crcBurstRow.holds Try.pinned (OpenSpec.ofChange Rows.crcBurstSpec) :=
  OpenClaim.holds_of_wide 5 Try.f5 rfl rfl rfl rfl rfl rfl rfl ⟨rfl, rfl, rfl, rfl, rfl⟩ rfl rfl rfl rfl rfl (by kernel_rfl) Try.func5 (by kernel_rfl)
    (of_decide_eq_true (by kernel_rfl)) (by unfold Func.isWrapper; first | (rw [if_pos (by decide +kernel)]; kernel_rfl) | (rw [if_neg (by decide +kernel)]; exact ⟨rfl, rfl⟩))
    (fun os started H enc _ => lifted os started H enc)

/-- ████ THE STATEMENT ████ -/
theorem proved : Rows.CrcBurstSaid := over
#print axioms proved
end Go.Proofs.Ytljlipdpbflffaa.crcBurst
