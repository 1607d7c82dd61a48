/- Contracts of package log: headOf, recordOf, bytesOf; slices.Clone of bytes. -/
import Derived.Test.YtoocifoglhhnmaaLogNum
import Derived.Lib.LazyBuf
namespace Go.Proofs.Ytoocifoglhhnmaa
open Go.RowKit
set_option linter.unusedVariables false

theorem make_zeros (n : Nat) (hn : n ≤ 200000) (w : World) : (Instr.makeSlice 38 (.int .i64 (n : Int)) (.int .i64 (n : Int))).run Try.prog w = .ok (.slice (some ⟨w.heap.size, 0, none⟩) n n) (w.alloc (.cells ((Lg.zeros n).map bv).toArray 5)) := make_bytes n hn w

theorem psum_any (F : Nat → Prop) (A : Option Addr) (m c : Nat) (l : Dk.Bs) (w : World) (hm : l.length = m) (hl : m ≤ 100000) (hb : BytesIn F w A l) :
    Calls Try.prog 69 #[.slice A m c] w fun e w' => e = .returned (.int .u32 (Lg.crc l : Nat)) ∧ Below w.heap.size w w' := by
  have := Cc.sum_any A c (Lg.nats l) w (by unfold Lg.nats maxLen; rw [List.length_map]; omega) (bytesAt_of hb)
  rw [show (Lg.nats l).length = m by unfold Lg.nats; rw [List.length_map]; exact hm] at this
  exact this
theorem pmore_any (F : Nat → Prop) (t : Dk.Bs) (A : Option Addr) (m c : Nat) (l : Dk.Bs) (w : World) (hm : l.length = m) (hl : m ≤ 100000) (hb : BytesIn F w A l) :
    Calls Try.prog 68 #[.int .u32 (Lg.crc t : Nat), .slice A m c] w fun e w' => e = .returned (.int .u32 (Lg.crc (t ++ l) : Nat)) ∧ Below w.heap.size w w' := by
  have := Cc.more_any (Lg.crc t) A c (Lg.nats l) w (Lg.crc_lt t) (by unfold Lg.nats maxLen; rw [List.length_map]; omega) (bytesAt_of hb)
  rw [show (Lg.nats l).length = m by unfold Lg.nats; rw [List.length_map]; exact hm, Lg.crc_more] at this
  exact this

theorem blk_below {w w' : World} {p : Nat} {l : Dk.Bs} (h : Blk w p l) (hb : Below w.heap.size w w') : Blk w' p l := h.keep (F := No) (Kept.of_below hb) id
theorem kept_at_below {w w' : World} {p : Nat} (hk : Kept (fun i => i = p) w w') {B : Nat} {a : World} (hb : Below B a w) (hp : B ≤ p) (hs : B ≤ w.heap.size) : Below B a w' := hk.below hb hs (fun i hi e => by omega)

set_option maxHeartbeats 1000000 in
set_option maxRecDepth 100000 in
theorem headOf_any (g : Nat) (w : World) (hg : g < 4294967296) :
    Calls Try.prog 61 #[.int .i64 g] w fun e w' => e = .returned (.slice (some ⟨w.heap.size, 0, none⟩) 32 32) ∧ Blk w' w.heap.size (Lg.head g) ∧ Below w.heap.size w w' := by
  have hmk : ∀ W : World, (Instr.makeSlice 38 (.int .i64 32) (.int .i64 32)).run Try.prog W = .ok (.slice (some ⟨W.heap.size, 0, none⟩) 32 32) (W.alloc (.cells ((Lg.zeros 32).map bv).toArray 5)) := make_zeros 32 (by omega)
  have HB0 := Lib.hid (Blk.new w (Lg.zeros 32))
  have HBW : Hid (Below w.heap.size w (w.alloc (.cells ((Lg.zeros 32).map bv).toArray 5))) := (Below.refl _ _).alloc (Nat.le_refl _) _
  have HSZ : Hid (w.heap.size < (w.alloc (.cells ((Lg.zeros 32).map bv).toArray 5)).heap.size) := by unfold Hid; simp
  generalize ((Lg.zeros 32).map bv).toArray = Z at *
  go_enter Try.func61, Try.ntmps61
  go_wp2_with fail
  refine (layNumber_any w.heap.size 0 4 32 (Lg.zeros 32) g _ HB0.out (by omega) (by rw [Lg.zeros_len]; omega) hg).mono ?_
  rintro e w1 ⟨rfl, h1, k1⟩
  have HB1 := Lib.hid h1
  have HBW1 := Lib.hid (kept_at_below k1 HBW.out (Nat.le_refl _) HBW.out.size)
  have HSZ1 : Hid (w.heap.size < w1.heap.size) := Nat.lt_of_lt_of_le HSZ.out k1.size
  clear h1 k1 HB0 HBW HSZ hmk
  have HT : Hid (BytesIn No w1 (some ⟨w.heap.size, 0, none⟩) (Lg.be 4 g)) := by
    have := (HB1.out.bytes (F := No) id).take 4
    rw [← List.map_take] at this
    have e : (splice (Lg.zeros 32) 0 (Lg.be 4 g)).take 4 = Lg.be 4 g := by
      unfold splice
      rw [List.take_zero, List.nil_append, List.take_append, Lg.be_len, Nat.sub_self, List.take_zero, List.append_nil, List.take_of_length_le (by rw [Lg.be_len]; omega)]
    rw [e] at this
    exact this
  have HC1 := Lib.hid (psum_any No _ 4 32 (Lg.be 4 g) w1.drew (Lg.be_len _ _) (by omega) HT.out)
  have HC2 : Hid (∀ w2 : World, Below w1.drew.heap.size w1.drew w2 → Calls Try.prog 67 #[.slice (some ⟨w.heap.size, 4, none⟩) 4 28, .int .u32 (Lg.crc (Lg.be 4 g) : Nat)] w2 fun e w3 => e = .returned (.tuple #[]) ∧ Blk w3 w.heap.size (splice (splice (Lg.zeros 32) 0 (Lg.be 4 g)) 4 (Lg.be 4 (Lg.crc (Lg.be 4 g)))) ∧ Below w.heap.size w w3) := fun w2 b2 => by
    refine (layNumber_any w.heap.size 4 4 28 _ _ _ (blk_below (w := w1.drew) HB1.out b2) (by omega) (by rw [length_splice _ _ _ (by rw [Lg.be_len, Lg.zeros_len]; omega), Lg.zeros_len]; omega) (Lg.crc_lt _)).mono fun e w3 ⟨e1, e2, e3⟩ => ⟨e1, e2, ?_⟩
    exact kept_at_below e3 (HBW1.out.drew.trans (b2.mono (Nat.le_of_lt HSZ1.out))) (Nat.le_refl _) (Nat.le_trans (Nat.le_of_lt HSZ1.out) b2.size)
  clear HB1 HBW1 HSZ1 HT
  go_wp2_with fail
  go_region_held3 (fun _ => True) (exact trivial)
    (first
      | (go_at_call 67; refine (HC2.out _ b2).mono ?_; rintro e w3 ⟨rfl, h3, hbw3⟩)
      | (go_at_call 69; refine HC1.out.mono ?_; rintro e w2 ⟨rfl, b2⟩))
  have HB3 := Lib.hid h3
  have HBW3 := Lib.hid hbw3
  have hlen : (splice (splice (Lg.zeros 32) 0 (Lg.be 4 g)) 4 (Lg.be 4 (Lg.crc (Lg.be 4 g)))).length = 32 := by
    rw [length_splice _ _ _ (by rw [Lg.be_len, length_splice _ _ _ (by rw [Lg.be_len, Lg.zeros_len]; omega), Lg.zeros_len]; omega), length_splice _ _ _ (by rw [Lg.be_len, Lg.zeros_len]; omega), Lg.zeros_len]
  obtain ⟨b, hb⟩ := some_at _ 31 (by rw [hlen]; omega)
  have c31 := h3.cell hb
  have f31 := h3.fz 31
  clear h3 hbw3 hb hlen HC1 HC2
  go_wp2
  go_ret
  refine ⟨rfl, ?_, HBW3.out.setCell (p := ⟨w.heap.size, 31, none⟩) (Nat.le_refl _) _⟩
  rw [← Lg.head_made]
  exact HB3.out.set 31 165

theorem nil_of_none {F : Nat → Prop} {w : World} {l : Dk.Bs} (h : BytesIn F w none l) : l = [] := by
  cases l with
  | nil => rfl
  | cons b l =>
    obtain ⟨ad, h1, _⟩ := BytesIn.at_ h (k := 0) (b := b) rfl
    cases h1

/-- b[lo:hi], of bytes -/
theorem slice_part (A : Option Addr) (n c lo hi : Nat) (hnc : n ≤ c) (h1 : lo ≤ hi) (h2 : hi ≤ n) :
    ∃ A' c', (∀ W : World, (Instr.slice 38 (.slice A n c) (some (.int .i64 (lo : Int))) (some (.int .i64 (hi : Int))) none).run Try.prog W = .ok (.slice A' (hi - lo) c') W) ∧ hi - lo ≤ c' ∧ c' ≤ c ∧ (∀ ad, A = some ad → lo < c → A' = some (ad.add lo)) ∧
      ∀ (F : Nat → Prop) (W : World) (l : Dk.Bs), l.length = n → BytesIn F W A l → BytesIn F W A' ((l.drop lo).take (hi - lo)) := by
  refine ⟨if c = lo then A else A.map (·.add lo), c - lo, fun W => ?_, by omega, by omega, fun ad e hlt => ?_, fun F W l hl h => ?_⟩
  · rw [run_slice_lh W 38 A n c (by kernel_rfl) .i64 .i64 _ _ (by omega) (by omega) (by omega), size5 W]
    simp [sliced, Result.andThen]
  · rw [if_neg (by omega), e]; rfl
  · by_cases e : lo = n
    · rw [List.drop_eq_nil_of_le (by omega), List.take_nil]
      exact CellsIn.nil _ _ _
    · rw [if_neg (by omega)]
      cases A with
      | none =>
        obtain rfl := nil_of_none h
        simp only [List.drop_nil, List.take_nil]
        exact CellsIn.nil _ _ _
      | some ad =>
        unfold BytesIn at h ⊢
        rw [List.map_take, List.map_drop]
        exact (CellsIn.drop h lo).take _
/-- b[lo:], of a block of its own -/
theorem slice_own (p n lo : Nat) (h : lo ≤ n) :
    ∃ A' c', (∀ W : World, (Instr.slice 38 (.slice (some ⟨p, 0, none⟩) n n) (some (.int .i64 (lo : Int))) none none).run Try.prog W = .ok (.slice A' (n - lo) c') W) ∧ (lo < n → A' = some ⟨p, lo, none⟩) := by
  refine ⟨if n = lo then some ⟨p, 0, none⟩ else some ⟨p, lo, none⟩, n - lo, fun W => ?_, fun hlt => by rw [if_neg (by omega)]⟩
  rw [run_slice_l W 38 _ n n (by kernel_rfl) .i64 _ (by omega) (by omega), size5 W]
  simp [sliced, Result.andThen, Addr.add_mid]

theorem copy_blk (w : World) (p off : Nat) (L : Dk.Bs) (hB : Blk w p L) (dLen dCap : Nat) (dp A : Option Addr) (sLen sCap : Nat) (l : Dk.Bs) (hl : l.length = Nat.min sLen dLen) (hd : 0 < l.length → dp = some ⟨p, off, none⟩) (F : Nat → Prop) (hs : BytesIn F w A l) (hfit : off + l.length ≤ L.length) :
    ∃ w', (Builtin.copy_ #[38, 38] 3 #[.slice dp dLen dCap, .slice A sLen sCap]).run Try.prog w = .ok (goInt l.length) w' ∧ Blk w' p (splice L off l) ∧ Kept (fun i => i = p) w w' := by
  obtain ⟨w', h1, h2, h3⟩ := run_copy_kept (P := Try.prog) w 38 38 3 5 dp A dLen dCap sLen sCap Try.underlying38 byte_size p off (L.map bv) 5 hB (l.map bv) (by rw [List.length_map]; exact hl)
    (fun h0 => ⟨hd (by simpa using h0), by
      obtain ⟨x, hx⟩ := some_at (l.map bv) 0 h0
      obtain ⟨ad, rfl, _, _, _⟩ := hs 0 x hx
      refine ⟨ad, rfl, fun j v hv => ?_⟩
      obtain ⟨ad', e, _, _, hc⟩ := hs j v hv
      obtain rfl := Option.some.inj e
      exact hc⟩) (by rw [List.length_map, List.length_map]; exact hfit) (bv_one l)
  rw [List.length_map] at h1
  rw [← Dk.splice_map] at h2
  exact ⟨w', h1, h2, h3⟩

theorem bytes_no {F : Nat → Prop} {w : World} {A : Option Addr} {l : Dk.Bs} (h : BytesIn F w A l) : BytesIn No w A l := CellsIn.less h (fun _ _ => False.elim)
theorem bytes_keep {w w' : World} {A : Option Addr} {l : Dk.Bs} (h : BytesIn No w A l) (hb : Below w.heap.size w w') : BytesIn No w' A l := CellsIn.keep h (Kept.of_below hb)
theorem bytes_take {F : Nat → Prop} {w : World} {A : Option Addr} {l : Dk.Bs} (h : BytesIn F w A l) (k : Nat) : BytesIn F w A (l.take k) := by
  unfold BytesIn
  rw [List.map_take]
  exact CellsIn.take h k

set_option maxHeartbeats 1000000 in
set_option maxRecDepth 100000 in
theorem bytesOf_any (A : Option Addr) (N c m : Nat) (l : Dk.Bs) (w : World) (hN : l.length = N) (hNs : N = 32 * Lg.secs m) (hNc : N ≤ c) (hm : m ≤ 200) (hb : BytesIn No w A l) :
    Calls Try.prog 75 #[.slice A N c, .int .i64 m] w fun e w' => e = .returned (.slice (some ⟨w.heap.size, 0, none⟩) m m) ∧ Blk w' w.heap.size (Lg.own l m) ∧ Below w.heap.size w w' := by
  have hpos := Lg.secs_pos m
  have hroom := Lg.secs_room m
  have hmk := make_zeros m (by omega)
  have hB0 := Blk.new w (Lg.zeros m)
  have hBW : Below w.heap.size w (w.alloc (.cells ((Lg.zeros m).map bv).toArray 5)) := (Below.refl _ _).alloc (Nat.le_refl _) _
  have hb1 : BytesIn No (w.alloc (.cells ((Lg.zeros m).map bv).toArray 5)) A l := bytes_keep hb hBW
  obtain ⟨A1, c1, hs1, _, _, _, hy1⟩ := slice_part A N c 14 31 hNc (by omega) (by omega)
  have hs1' : ∀ W : World, (Instr.slice 38 (.slice A N c) (some (.int .i64 14)) (some (.int .i64 31)) none).run Try.prog W = .ok (.slice A1 17 c1) W := hs1
  have hl1 : ((l.drop 14).take (min m 17)).length = min m 17 := by rw [List.length_take, List.length_drop]; omega
  have hbb1 : BytesIn No (w.alloc (.cells ((Lg.zeros m).map bv).toArray 5)) A1 ((l.drop 14).take (min m 17)) := by
    have := bytes_take (hy1 No _ l hN hb1) (min m 17)
    rw [List.take_take, Nat.min_eq_left (by omega)] at this
    exact this
  obtain ⟨w1, hr1, hB1, hk1⟩ := copy_blk _ w.heap.size 0 (Lg.zeros m) hB0 m m (some ⟨w.heap.size, 0, none⟩) A1 17 c1 ((l.drop 14).take (min m 17)) (by rw [hl1]; exact Nat.min_comm _ _) (fun _ => rfl) No hbb1 (by rw [hl1, Lg.zeros_len]; omega)
  rw [hl1] at hr1
  obtain ⟨D2, c2, hs2, hD2⟩ := slice_own w.heap.size m (min m 17) (by omega)
  obtain ⟨A3, c3, hs3, hy3⟩ := slice_back A N c 32 hNc (by omega)
  have hs3' : ∀ W : World, (Instr.slice 38 (.slice A N c) (some (.int .i64 32)) none none).run Try.prog W = .ok (.slice A3 (N - 32) c3) W := hs3
  have hb1w : BytesIn No w1 A l := by
    have : Kept (fun i => i = w.heap.size) w w1 := ((Kept.refl _ w).alloc _).trans hk1
    refine CellsIn.less (F := fun i => i = w.heap.size) (CellsIn.keep ?_ this) (fun _ _ => False.elim)
    intro k u hu
    obtain ⟨ad, e, hlt, _, hc⟩ := hb k u hu
    exact ⟨ad, e, hlt, by omega, hc⟩
  have hl2 : ((l.drop 32).take (m - 17)).length = m - 17 := by rw [List.length_take, List.length_drop]; omega
  obtain ⟨w2, hr2, hB2, hk2⟩ := copy_blk w1.drew w.heap.size (min m 17) _ hB1 (m - min m 17) c2 D2 A3 (N - 32) c3 ((l.drop 32).take (m - 17)) (by rw [hl2, show m - min m 17 = m - 17 by omega]; exact (Nat.min_eq_right (by omega)).symm) (fun h0 => hD2 (by omega)) No (bytes_take (hy3 No w1 l hN hb1w) (m - 17))
    (by rw [length_splice _ _ _ (by rw [hl1, Lg.zeros_len]; omega), hl2, Lg.zeros_len]; omega)
  rw [hl2] at hr2
  rw [Lg.own_made l m (by omega)] at hB2
  have HB2 := Lib.hid hB2
  have HBW : Hid (Below w.heap.size w w2) := kept_at_below hk2 (kept_at_below hk1 hBW (Nat.le_refl _) hBW.size).drew (Nat.le_refl _) (Nat.le_trans hBW.size hk1.size)
  clear hb hB0 hBW hb1 hs1 hs3 hy1 hl1 hbb1 hB1 hk1 hD2 hy3 hb1w hl2 hB2 hk2 hN hNs hNc hpos hroom hm
  generalize min m 17 = f at *
  generalize ((Lg.zeros m).map bv).toArray = Z at *
  go_enter Try.func75, Try.ntmps75
  go_wp2
  go_still_tail 5, (by kernel_rfl)
  go_wp2
  go_ret
  exact ⟨rfl, HB2.out, HBW.out⟩

theorem slice_own_lh (p n lo hi : Nat) (h1 : lo ≤ hi) (h2 : hi ≤ n) (h3 : lo < n) :
    ∀ W : World, (Instr.slice 38 (.slice (some ⟨p, 0, none⟩) n n) (some (.int .i64 (lo : Int))) (some (.int .i64 (hi : Int))) none).run Try.prog W = .ok (.slice (some ⟨p, lo, none⟩) (hi - lo) (n - lo)) W := by
  intro W
  rw [run_slice_lh W 38 _ n n (by kernel_rfl) .i64 .i64 _ _ (by omega) (by omega) (by omega), size5 W]
  simp [sliced, Result.andThen, Addr.add_mid]
  omega

theorem blk_kept {w w' : World} {p q : Nat} {l : Dk.Bs} (h : Blk w p l) (hk : Kept (fun i => i = q) w w') (hne : p ≠ q) : Blk w' p l := h.keep hk hne
theorem bytes_kept {w w' : World} {B p : Nat} {A : Option Addr} {l : Dk.Bs} (h : BytesIn (fun i => B ≤ i) w A l) (hk : Kept (fun i => i = p) w w') (hp : B ≤ p) : BytesIn (fun i => B ≤ i) w' A l :=
  CellsIn.keep h (hk.wide (fun i _ e => by omega))
theorem bytes_old {w w' : World} {A : Option Addr} {l : Dk.Bs} {B : Nat} (h : BytesIn (fun i => B ≤ i) w A l) (hb : Below B w w') (hB : B ≤ w.heap.size) : BytesIn (fun i => B ≤ i) w' A l := by
  refine CellsIn.keep h ⟨hb.os, hb.tape, hb.output, hb.size, fun i hi hn => hb.block i (by omega)⟩
theorem bytes_start {F : Nat → Prop} {w : World} {A : Option Addr} {l : Dk.Bs} (h : BytesIn F w A l) : BytesIn (fun i => w.heap.size ≤ i) w A l := by
  intro k u hu
  obtain ⟨ad, e, hlt, _, hc⟩ := h k u hu
  exact ⟨ad, e, hlt, by omega, hc⟩

/-- what recordOf holds: its own block, nothing old has turned -/
structure Own1 (w : World) (A : Option Addr) (l : Dk.Bs) (W : World) (L : Dk.Bs) : Prop where
  blk : Blk W w.heap.size L
  bel : Below w.heap.size w W
  byt : BytesIn (fun i => w.heap.size ≤ i) W A l
theorem Own1.drew {w W : World} {A : Option Addr} {l L : Dk.Bs} (h : Own1 w A l W L) : Own1 w A l W.drew L := ⟨h.blk, h.bel.drew, h.byt⟩
theorem Own1.below {w W W' : World} {A : Option Addr} {l L : Dk.Bs} (h : Own1 w A l W L) (hb : Below W.heap.size W W') : Own1 w A l W' L :=
  ⟨blk_below h.blk hb, h.bel.trans (hb.mono h.bel.size), bytes_old h.byt (hb.mono h.bel.size) h.bel.size⟩
theorem Own1.kept {w W W' : World} {A : Option Addr} {l L L' : Dk.Bs} (h : Own1 w A l W L) (hB : Blk W' w.heap.size L') (hk : Kept (fun i => i = w.heap.size) W W') : Own1 w A l W' L' :=
  ⟨hB, kept_at_below hk h.bel (Nat.le_refl _) h.bel.size, bytes_kept h.byt hk (Nat.le_refl _)⟩
theorem Own1.lay {w W : World} {A : Option Addr} {l L : Dk.Bs} (h : Own1 w A l W L) (off k c x : Nat) (hk : k ≤ 4) (hfit : off + k ≤ L.length) (hx : x < 4294967296) :
    Calls Try.prog 67 #[.slice (some ⟨w.heap.size, off, none⟩) k c, .int .u32 x] W fun e w' => e = .returned (.tuple #[]) ∧ Own1 w A l w' (splice L off (Lg.be k x)) :=
  (layNumber_any w.heap.size off k c L x W h.blk hk hfit hx).mono fun _ _ ⟨e1, e2, e3⟩ => ⟨e1, h.kept e2 e3⟩
theorem splice_len {L : Dk.Bs} {off : Nat} {c : Dk.Bs} {N : Nat} (h : L.length = N) (hf : off + c.length ≤ N) : (splice L off c).length = N := by rw [length_splice _ _ _ (by omega)]; exact h
theorem splice_be_len {L : Dk.Bs} {off k x N : Nat} (h : L.length = N) (hf : off + k ≤ N) : (splice L off (Lg.be k x)).length = N := splice_len h (by rw [Lg.be_len]; exact hf)

set_option maxHeartbeats 2000000 in
set_option maxRecDepth 100000 in
theorem recordOf_any (A : Option Addr) (m c g pl : Nat) (l : Dk.Bs) (w : World) (hm : l.length = m) (hmc : m ≤ c) (hm2 : m ≤ 200) (hg : g < 4294967296) (hp : pl < 4294967296) (hb : BytesIn No w A l) :
    Calls Try.prog 44 #[.slice A m c, .int .i64 g, .int .i64 pl] w fun e w' => e = .returned (.slice (some ⟨w.heap.size, 0, none⟩) (32 * Lg.secs m) (32 * Lg.secs m)) ∧ Blk w' w.heap.size (Lg.recd l g pl) ∧ Below w.heap.size w w' := by
  have hpos := Lg.secs_pos m
  have hle := Lg.secs_le m hm2
  have hroom := Lg.secs_room m
  have HMADE := Lib.hid (Lg.recd_made l g pl)
  rw [hm] at HMADE
  have HSEC : Hid (∀ W, Calls Try.prog 42 #[.int .i64 m] W fun e w' => e = .returned (.int .i64 (Lg.secs m : Nat)) ∧ W = w') := fun W => sectorsOf_any m W (by omega)
  have HTOP : Hid (splice (splice (splice (Lg.zeros (32 * Lg.secs m)) 0 (Lg.be 2 m)) 2 (Lg.be 4 g)) 6 (Lg.be 4 pl) = Lg.top m g pl ++ Lg.zeros (32 * Lg.secs m - 10)) := by
    unfold Hid
    have e1 := Lg.fill_at [] (Lg.be 2 m) 0 (32 * Lg.secs m) rfl (by rw [Lg.be_len]; omega)
    rw [List.nil_append, List.nil_append, Lg.be_len] at e1
    rw [e1, Lg.fill_at (Lg.be 2 m) (Lg.be 4 g) 2 _ (Lg.be_len _ _) (by rw [Lg.be_len]; omega), Lg.be_len, Lg.fill_at (Lg.be 2 m ++ Lg.be 4 g) (Lg.be 4 pl) 6 _ (by simp [Lg.be_len]) (by rw [Lg.be_len]; omega), Lg.be_len]
    rfl
  generalize Lg.secs m = q at *
  obtain ⟨N, hN⟩ : ∃ N, 32 * q = N := ⟨_, rfl⟩
  rw [hN] at HMADE HTOP ⊢
  have hmk : ∀ W : World, (Instr.makeSlice 38 (.int .i64 ((q : Int) * 32)) (.int .i64 ((q : Int) * 32))).run Try.prog W = .ok (.slice (some ⟨W.heap.size, 0, none⟩) N N) (W.alloc (.cells ((Lg.zeros N).map bv).toArray 5)) := fun W => by
    rw [show (q : Int) * 32 = (N : Int) by omega]
    exact make_zeros N (by omega) W
  have h0 : Own1 w A l (w.alloc (.cells ((Lg.zeros N).map bv).toArray 5)) (Lg.zeros N) := by
    have hbl : Below w.heap.size w (w.alloc (.cells ((Lg.zeros N).map bv).toArray 5)) := (Below.refl _ _).alloc (Nat.le_refl _) _
    exact ⟨Blk.new w _, hbl, bytes_old (bytes_start hb) hbl (Nat.le_refl _)⟩
  have H0 := Lib.hid h0
  have HN : Hid ((Lg.zeros N).length = N) := Lg.zeros_len N
  have HN32 : Hid (32 ≤ N) := by unfold Hid; omega
  have HNR : Hid (m - 17 ≤ N - 32) := by unfold Hid; omega
  have hs1 := fun W : World => slice_front (some ⟨w.heap.size, 0, none⟩) N N 2 (Nat.le_refl _) (by omega) W
  have hs2 := slice_own_lh w.heap.size N 2 6 (by omega) (by omega) (by omega)
  have hs3 := slice_own_lh w.heap.size N 6 10 (by omega) (by omega) (by omega)
  have hs4 := slice_own_lh w.heap.size N 10 14 (by omega) (by omega) (by omega)
  have hs5 := fun W : World => slice_front (some ⟨w.heap.size, 0, none⟩) N N 10 (Nat.le_refl _) (by omega) W
  have hs6 := slice_own_lh w.heap.size N 14 31 (by omega) (by omega) (by omega)
  obtain ⟨D7, c7, hs7, hD7⟩ := slice_own w.heap.size N 32 (by omega)
  obtain ⟨f, hf⟩ : ∃ f, min 17 m = f := ⟨_, rfl⟩
  obtain ⟨A8, c8, hs8, hy8⟩ := slice_back A m c f hmc (by omega)
  have HD7 := Lib.hid hD7
  have HY8 := Lib.hid hy8
  have HF := Lib.hid hf
  have HM := Lib.hid hm
  have hq7 : q ≤ 7 := hle
  simp only [Int.cast_ofNat_Int, Nat.reduceSub] at hs1 hs2 hs3 hs4 hs5 hs6 hs7
  clear hb h0 hD7 hy8 hpos hroom hle hmc hf hm hN
  generalize ((Lg.zeros N).map bv).toArray = Z at *
  go_enter Try.func44, Try.ntmps44
  go_wp2_with (go_at_call 42; refine (HSEC.out _).mono ?_; rintro e w' ⟨rfl, rfl⟩)
  refine (H0.out.lay 0 2 N m (by omega) (by have := HN32.out; rw [HN.out]; omega) (by omega)).mono ?_
  rintro e w1 ⟨rfl, h1⟩
  have H1 := Lib.hid h1
  have HN1 := Lib.hid (splice_be_len (off := 0) (k := 2) (x := m) HN.out (by have := HN32.out; omega))
  clear h1 H0 HSEC hmk hs1
  go_wp2_with fail
  refine (H1.out.lay 2 4 (N - 2) g (by omega) (by have := HN32.out; rw [HN1.out]; omega) hg).mono ?_
  rintro e w2 ⟨rfl, h2⟩
  have H2 := Lib.hid h2
  have HN2 := Lib.hid (splice_be_len (off := 2) (k := 4) (x := g) HN1.out (by have := HN32.out; omega))
  clear h2 H1 hs2
  go_wp2_with fail
  refine (H2.out.lay 6 4 (N - 6) pl (by omega) (by have := HN32.out; rw [HN2.out]; omega) hp).mono ?_
  rintro e w3 ⟨rfl, h3⟩
  have H3 : Hid (Own1 w A l w3.drew _) := h3.drew
  have HN3 := Lib.hid (splice_be_len (off := 6) (k := 4) (x := pl) HN2.out (by have := HN32.out; omega))
  clear h3 H2 hs3
  rw [HTOP.out] at H3 HN3
  have HC1 : Hid (Calls Try.prog 69 #[.slice (some ⟨w.heap.size, 0, none⟩) 10 N] w3.drew fun e w' => e = .returned (.int .u32 (Lg.crc (Lg.top m g pl) : Nat)) ∧ Own1 w A l w' (Lg.top m g pl ++ Lg.zeros (N - 10))) := by
    refine (psum_any No _ 10 N (Lg.top m g pl) w3.drew (Lg.top_len _ _ _) (by omega) ?_).mono fun _ _ ⟨e1, e2⟩ => ⟨e1, H3.out.below e2⟩
    have := bytes_take (H3.out.blk.bytes (F := No) id) 10
    rw [List.take_append, Lg.top_len, Nat.sub_self, List.take_zero, List.append_nil, List.take_of_length_le (by rw [Lg.top_len]; omega)] at this
    exact this
  have HC2 : Hid (∀ w4 : World, Own1 w A l w4 (Lg.top m g pl ++ Lg.zeros (N - 10)) → Calls Try.prog 68 #[.int .u32 (Lg.crc (Lg.top m g pl) : Nat), .slice A m c] w4 fun e w' => e = .returned (.int .u32 (Lg.crc (Lg.top m g pl ++ l) : Nat)) ∧ Own1 w A l w' (Lg.top m g pl ++ Lg.zeros (N - 10))) := fun w4 h4 =>
    (pmore_any _ (Lg.top m g pl) A m c l w4 HM.out (by omega) h4.byt).mono fun _ _ ⟨e1, e2⟩ => ⟨e1, h4.below e2⟩
  have HC3 : Hid (∀ w5 : World, Own1 w A l w5 (Lg.top m g pl ++ Lg.zeros (N - 10)) → Calls Try.prog 67 #[.slice (some ⟨w.heap.size, 10, none⟩) 4 (N - 10), .int .u32 (Lg.crc (Lg.top m g pl ++ l) : Nat)] w5 fun e w' => e = .returned (.tuple #[]) ∧ Own1 w A l w' (splice (Lg.top m g pl ++ Lg.zeros (N - 10)) 10 (Lg.be 4 (Lg.crc (Lg.top m g pl ++ l))))) := fun w5 h5 =>
    h5.lay 10 4 (N - 10) _ (by omega) (by have := HN32.out; rw [HN3.out]; omega) (Lg.crc_lt _)
  have HN4 := Lib.hid (splice_be_len (off := 10) (k := 4) (x := Lg.crc (Lg.top m g pl ++ l)) HN3.out (by have := HN32.out; omega))
  go_wp2_with fail
  go_region_held3 (fun _ => True) (exact trivial)
    (first
      | (go_at_call 67; refine (HC3.out _ h5).mono ?_; rintro e w6 ⟨rfl, h6⟩)
      | (go_at_call 68; refine (HC2.out _ h4).mono ?_; rintro e w5 ⟨rfl, h5⟩)
      | (go_at_call 69; refine HC1.out.mono ?_; rintro e w4 ⟨rfl, h4⟩))
  have H6 := Lib.hid h6
  clear h4 h5 h6 HC1 HC2 HC3 hs4 hs5
  rw [HTOP.out] at HMADE
  generalize splice (Lg.top m g pl ++ Lg.zeros (N - 10)) 10 (Lg.be 4 (Lg.crc (Lg.top m g pl ++ l))) = L4 at *
  have hlt : (l.take 17).length = f := by rw [List.length_take, HM.out]; exact HF.out
  obtain ⟨w7, hr7, hB7, hk7⟩ := copy_blk w6 w.heap.size 14 L4 H6.out.blk 17 (N - 14) (some ⟨w.heap.size, 14, none⟩) A m c (l.take 17) (by rw [List.length_take, HM.out]; exact Nat.min_comm _ _) (fun _ => rfl) _ (bytes_take H6.out.byt 17) (by have := HN32.out; have := HF.out; rw [hlt, HN4.out]; omega)
  rw [hlt] at hr7
  have H7 := Lib.hid (H6.out.kept hB7 hk7)
  have HN7 : Hid ((splice L4 14 (l.take 17)).length = N) := splice_len HN4.out (by have := HN32.out; have := HF.out; rw [hlt]; omega)
  obtain ⟨b31, hb31⟩ := some_at (splice L4 14 (l.take 17)) 31 (by rw [HN7.out]; exact HN32.out)
  have c31 := hB7.cell hb31
  have f31 := hB7.fz 31
  have H8 : Hid (Own1 w A l (w7.setCell ⟨w.heap.size, 31, none⟩ (.int .u8 165)) ((splice L4 14 (l.take 17)).set 31 165)) := H7.out.kept (hB7.set 31 165) ((Kept.refl (fun i => i = w.heap.size) w7).setCell (p := ⟨w.heap.size, 31, none⟩) (.inl rfl) _)
  have hdr : l.drop f = l.drop 17 := by
    by_cases e : m ≤ 17
    · rw [List.drop_eq_nil_of_le (by have := HF.out; rw [HM.out]; omega), List.drop_eq_nil_of_le (by rw [HM.out]; omega)]
    · rw [show f = 17 by have := HF.out; omega]
  have hdl : (l.drop 17).length = m - f := by rw [List.length_drop, HM.out]; have := HF.out; omega
  have hbd := HY8.out _ _ l HM.out H8.out.byt
  rw [hdr] at hbd
  obtain ⟨w9, hr9, hB9, hk9⟩ := copy_blk (w7.setCell ⟨w.heap.size, 31, none⟩ (.int .u8 165)).drew w.heap.size 32 _ H8.out.blk (N - 32) c7 D7 A8 (m - f) c8 (l.drop 17) (by rw [hdl]; exact (Nat.min_eq_left (by have := HNR.out; have := HF.out; omega)).symm) (fun h0 => HD7.out (by have := HNR.out; have := HN32.out; have := HF.out; omega)) _ hbd (by have := HNR.out; have := HN32.out; have := HF.out; rw [List.length_set, HN7.out, hdl]; omega)
  rw [hdl] at hr9
  have H9 := Lib.hid (Own1.kept H8.out.drew hB9 hk9)
  have h31 : (31 : Int) < (N : Int) := by have := HN32.out; omega
  clear hB7 hk7 hb31 hlt hdr hdl hbd hB9 hk9 H6 H7 H8
  go_wp2
  generalize w7.setCell ⟨w.heap.size, 31, none⟩ (.int .u8 165) = w8 at *
  go_still_tail 5, (by kernel_rfl)
  go_wp2
  go_ret
  refine ⟨rfl, ?_, H9.out.bel⟩
  have := H9.out.blk
  rw [HMADE.out] at this
  exact this

/-- a copy of bytes: where it lies -/
def Copied (w : World) (m : Nat) (l : Dk.Bs) (v : Value) (w' : World) : Prop :=
  ∃ A c, v = .slice A m c ∧ m ≤ c ∧ c ≤ maxLen ∧ BytesIn (fun i => i < w.heap.size) w' A l ∧ Below w.heap.size w w'

set_option maxHeartbeats 1000000 in
set_option maxRecDepth 100000 in
theorem clone_any (A : Option Addr) (m c : Nat) (l : Dk.Bs) (w : World) (hm : l.length = m) (hm2 : m ≤ 100000) (hb : BytesIn No w A l) :
    Calls Try.prog 45 #[.slice A m c] w fun e w' => ∃ v, e = .returned v ∧ Copied w m l v w' := by
  cases A with
  | none =>
    obtain rfl := nil_of_none hb
    obtain rfl : m = 0 := by simpa using hm.symm
    have hq : ∀ W : World, (binOp .eql 38 (.slice none 0 c) (.slice none 0 0)).run Try.prog W = .ok (.bool true) W := fun W => _root_.Go.run_eql_slice_nil W 38 5 none 0 c Try.underlying38
    clear hb
    go_enter Try.func45, Try.ntmps45
    go_wp2
    go_ret
    exact ⟨_, rfl, none, 0, rfl, Nat.le_refl _, by decide, CellsIn.nil _ _ _, Below.refl _ _⟩
  | some ad =>
    have hown := own_empty w w.heap.size (Nat.le_refl _) 5 1
    have HA : Hid (∃ v' w', (Builtin.append_ #[38, 38] 38 #[.slice (some ⟨w.heap.size, 0, none⟩) 0 0, .slice (some ad) m c]).run Try.prog (w.alloc (.cells #[] 5)) = .ok v' w' ∧ Copied w m l v' w') := by
      obtain ⟨v', w', h1, h2, h3⟩ := run_append_bytes No (w.alloc (.cells #[] 5)) w.heap.size 38 _ 0 [] hown (some ad) m c l hm (CellsIn.keep hb ((Kept.refl No w).alloc _)) (by omega) (by simp)
      rw [Nat.zero_add, List.nil_append] at h2
      obtain ⟨A', c', e1, e2, e3, e4, _⟩ := ownsRow_slice h2
      refine ⟨v', w', h1, A', c', e1, e2, e3, e4 _ (fun _ hi => hi), ?_⟩
      exact (kept_grown ((Kept.refl No w).alloc _) hown h3 (Nat.le_refl _)).below (Below.refl _ _) (Nat.le_refl _) (fun _ _ => id)
    have hq : ∀ W : World, (binOp .eql 38 (.slice (some ad) m c) (.slice none 0 0)).run Try.prog W = .ok (.bool false) W := fun W => _root_.Go.run_eql_slice_nil W 38 5 (some ad) m c Try.underlying38
    clear hb hown
    go_enter Try.func45, Try.ntmps45
    go_wp2_with (at_builtin; refine wpList_append_any rfl (.tmp 5) (.tmp 6) 38 38 rfl _ _ rfl rfl _ HA.out ?_; intro v1 w1 hc1)
    go_ret
    exact ⟨_, rfl, hc1⟩

end Go.Proofs.Ytoocifoglhhnmaa
