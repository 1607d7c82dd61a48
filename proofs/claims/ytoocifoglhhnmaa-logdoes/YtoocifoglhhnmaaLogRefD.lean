/- The document's log: Per, half, zero, gen. -/
import Derived.Test.YtoocifoglhhnmaaLogRefC
import Derived.Test.YtoocifoglhhnmaaLogDkR
namespace Go.Proofs.Ytoocifoglhhnmaa
open Go.RowKit
set_option linter.unusedVariables false

theorem RDiskAt.below {w w' : World} {g s n : Nat} {d : Dk.D} (h : RDiskAt w g s n d) (hb : Below w.heap.size w w') : RDiskAt w' g s n d := h.keep (F := No) (Kept.of_below hb) id id
theorem RDiskAt.alloc {w : World} {g s n : Nat} {d : Dk.D} (h : RDiskAt w g s n d) (o : Obj) : RDiskAt (w.alloc o) g s n d := h.below ((Below.refl _ _).alloc (Nat.le_refl _) o)
theorem RDiskAt.drewN {w : World} {g s n : Nat} {d : Dk.D} (h : RDiskAt w g s n d) (q : Nat) : RDiskAt (w.drewN q) g s n d := h.below ⟨rfl, rfl, rfl, Nat.le_refl _, fun _ _ => rfl⟩

theorem cut_cut (b : Dk.Bs) (a k j i : Nat) (h : j + i ≤ k) : ((Lg.cut b a k).drop (32 * j)).take (32 * i) = Lg.cut b (a + j) i := by
  unfold Lg.cut
  rw [List.drop_take, List.take_take, List.drop_drop, show 32 * a + 32 * j = 32 * (a + j) by omega, show min (32 * i) (32 * k - 32 * j) = 32 * i by omega]
theorem cut_sec (b : Dk.Bs) (a k j : Nat) (h : j < k) : ((Lg.cut b a k).drop (32 * j)).take 32 = Dk.sec b (a + j) := cut_cut b a k j 1 (by omega)
theorem cut_first (b : Dk.Bs) (a k : Nat) (h : 1 ≤ k) : (Lg.cut b a k).take 32 = Dk.sec b a := by
  have := cut_sec b a k 0 (by omega)
  rw [Nat.mul_zero, List.drop_zero] at this
  exact this

/-- b[a:b], of bytes -/
theorem slice_any (A : Option Addr) (n c lo hi k : Nat) (a b : Int) (ha : a = (lo : Int)) (hb : b = (hi : Int)) (h1 : lo + k = hi) (h2 : hi ≤ n) (h3 : n ≤ c) :
    ∃ A', (∀ W : World, (Instr.slice 38 (.slice A n c) (some (.int .i64 a)) (some (.int .i64 b)) none).run Try.prog W = .ok (.slice A' k (c - lo)) W) ∧
      ∀ (F : Nat → Prop) (W : World) (l : Dk.Bs), l.length = n → BytesIn F W A l → BytesIn F W A' ((l.drop lo).take k) := by
  subst ha hb h1
  refine ⟨if c = lo then A else A.map (·.add lo), fun W => ?_, fun F W l hl h => ?_⟩
  · rw [run_slice_lh W 38 A n c (by kernel_rfl) .i64 .i64 _ _ (by omega) (by omega) (by omega), size5 W]
    simp [sliced, Result.andThen]
    omega
  · by_cases e : k = 0
    · subst e
      rw [List.take_zero]
      exact CellsIn.nil _ _ _
    rw [if_neg (by omega)]
    cases A with
    | none =>
      have : l = [] := by
        cases l with
        | nil => rfl
        | cons b l =>
          obtain ⟨ad, h1, _⟩ := BytesIn.at_ h (k := 0) (b := b) rfl
          cases h1
      subst this
      simp at hl
      omega
    | some ad =>
      unfold BytesIn at h ⊢
      rw [List.map_take, List.map_drop]
      exact (CellsIn.drop h lo).take k

set_option maxHeartbeats 1000000 in
theorem rper_any (g s n z : Nat) (d : Dk.D) (w : World) (h : RDiskAt w g s n d) (hz : n / 2 = z) :
    Calls Try.prog 46 #[.pointer (some ⟨g, 0, none⟩)] w fun e w' => e = .returned (.int .i64 (z : Nat)) ∧ w = w' := by
  have hn1 := h.n1
  have c0 := h.c0
  obtain ⟨L, hL⟩ : ∃ L, 32 * n = L := ⟨_, rfl⟩
  rw [hL] at c0
  have hd1 : (L : Int) / 32 = (n : Int) := by omega
  have hd2 : (n : Int) / 2 = (z : Int) := by omega
  have h4 : L ≤ 200000 := by omega
  clear h hL hz
  go_enter Try.func46, Try.ntmps46
  go_wp2
  go_ret
  exact ⟨rfl, rfl⟩

def HalfR (g s n : Nat) (d : Dk.D) (hf z : Nat) (w : World) (e : Ending) (w' : World) : Prop :=
  ∃ A' c', e = .returned (.slice A' (32 * z) c') ∧ Hid (32 * z ≤ c' ∧ c' ≤ 200000) ∧ Hid (∀ (F : Nat → Prop) (W : World), RDiskAt W g s n d → ¬ F s → BytesIn F W A' (Lg.cut d.b (Lg.start n hf) z)) ∧ w = w'

set_option maxHeartbeats 1000000 in
set_option maxRecDepth 100000 in
theorem rhalf_any (g s n z hf : Nat) (d : Dk.D) (w : World) (h : RDiskAt w g s n d) (hz : n / 2 = z) (hh : hf ≤ 1) :
    Calls Try.prog 35 #[.pointer (some ⟨g, 0, none⟩), .int .i64 hf] w fun e w' => HalfR g s n d hf z w e w' := by
  have hn1 := h.n1
  have c0 := h.c0
  have HP := Lib.hid (rper_any g s n z d w h hz)
  obtain ⟨L, hL⟩ : ∃ L, 32 * n = L := ⟨_, rfl⟩
  have HL := Lib.hid hL
  have HLEN := Lib.hid h.good.len
  have HST : Hid (32 * Lg.start n hf = hf * (32 * z)) := by
    unfold Hid Lg.start
    rw [hz]
    have : hf = 0 ∨ hf = 1 := by omega
    rcases this with rfl | rfl <;> omega
  have h5 : hf * (32 * z) + 32 * z ≤ L := by
    have : hf = 0 ∨ hf = 1 := by omega
    rcases this with rfl | rfl <;> omega
  rw [hL] at c0
  have hmul : (hf : Int) * (32 * (z : Int)) = ((hf * (32 * z) : Nat) : Int) := by simp
  generalize hf * (32 * z) = p at *
  obtain ⟨A', hsl, hby⟩ := slice_any (some ⟨s, 0, none⟩) L L p (p + 32 * z) (32 * z) (p : Int) ((p : Int) + 32 * (z : Int)) rfl (by omega) rfl h5 (Nat.le_refl _)
  have HBY := Lib.hid hby
  have HC : Hid (32 * z ≤ L - p ∧ L - p ≤ 200000) := by unfold Hid; omega
  have hz4 : z ≤ 2048 := by omega
  have hp4 : p ≤ 200000 := by omega
  clear h hL hby h5 hz hn1 hh
  go_enter Try.func35, Try.ntmps35
  go_wp2_with fail
  refine HP.out.mono ?_
  rintro e w' ⟨rfl, rfl⟩
  clear HP
  go_wp2
  go_ret
  refine ⟨A', _, rfl, HC.out, fun F W hd hF => ?_, rfl⟩
  have := HBY.out F W d.b (by rw [HLEN.out, HL.out]) (CellsIn.of_block hd.row hF)
  unfold Lg.cut
  rw [HST.out]
  exact this

theorem below_drewN (w : World) (q B : Nat) : Below B w (w.drewN q) := ⟨rfl, rfl, rfl, Nat.le_refl _, fun _ _ => rfl⟩
theorem bsame_b (A B : Option Addr) (c d : Nat) (l m : Dk.Bs) (n : Nat) (w : World) (hl : l.length = n) (hm : m.length = n) (hn : n ≤ 100000) (ha : BytesIn No w A l) (hb : BytesIn No w B m) :
    Calls Try.prog 53 #[.slice A n c, .slice B n d] w fun e w' => e = .returned (.bool (decide (l = m))) ∧ Below w.heap.size w w' :=
  (bsame_any No A B n n c d l m w hl hm (by unfold maxLen; omega) (by unfold maxLen; omega) ha hb).mono fun _ _ ⟨e1, q, e2⟩ => ⟨e1, by rw [e2]; exact below_drewN _ _ _⟩

set_option maxHeartbeats 1000000 in
set_option maxRecDepth 100000 in
theorem rzero_any (A : Option Addr) (m c : Nat) (l : Dk.Bs) (w : World) (hm : l.length = m) (hm1 : m ≤ 100000) (hb : BytesIn No w A l) :
    Calls Try.prog 36 #[.slice A m c] w fun e w' => e = .returned (.bool (decide (l = Lg.zeros m))) ∧ Below w.heap.size w w' := by
  have hmk : ∀ W : World, (Instr.makeSlice 38 (.int .i64 (m : Int)) (.int .i64 (m : Int))).run Try.prog W = .ok (.slice (some ⟨W.heap.size, 0, none⟩) m m) (W.alloc (.cells ((Lg.zeros m).map bv).toArray 5)) := make_zeros m (by omega)
  obtain ⟨Z, hZ⟩ : ∃ Z, ((Lg.zeros m).map bv).toArray = Z := ⟨_, rfl⟩
  have HS : Hid (Calls Try.prog 53 #[.slice A m c, .slice (some ⟨w.heap.size, 0, none⟩) m m] (w.alloc (.cells Z 5)) fun e w' => e = .returned (.bool (decide (l = Lg.zeros m))) ∧ Below w.heap.size w w') := by
    rw [← hZ]
    refine (bsame_b A _ c m l (Lg.zeros m) m _ hm (Lg.zeros_len m) hm1 (CellsIn.keep hb ((Kept.refl No w).alloc _)) (CellsIn.of_block (heap_alloc_new w _) id)).mono fun _ _ ⟨e1, e2⟩ => ⟨e1, (below_alloc w _).trans (e2.mono (by simp))⟩
  rw [hZ] at hmk
  generalize decide (l = Lg.zeros m) = R at *
  clear hb hm hZ
  go_enter Try.func36, Try.ntmps36
  go_wp2_with fail
  refine HS.out.mono ?_
  rintro e w1 ⟨rfl, hb1⟩
  have HB1 := Lib.hid hb1
  clear hb1 HS
  go_wp2
  go_ret
  exact ⟨rfl, HB1.out⟩

set_option maxHeartbeats 1000000 in
set_option maxRecDepth 100000 in
theorem rgen_any (g s n z hf : Nat) (d : Dk.D) (w : World) (h : RDiskAt w g s n d) (hz : n / 2 = z) (hh : hf ≤ 1) :
    Calls Try.prog 34 #[.pointer (some ⟨g, 0, none⟩), .int .i64 hf] w fun e w' => e = .returned (.int .i64 (Lg.genOf d.b (Lg.start n hf) : Nat)) ∧ Below w.heap.size w w' := by
  have hst := Lg.start_le (n := n) hh
  have hn0 := h.n0
  have hlen := Dk.sec_len h.good.len (show Lg.start n hf < n by omega)
  have HH := Lib.hid (rhalf_any g s n z hf d w h hz hh)
  have HD := Lib.hid h
  have HF1 := Lib.hid (cut_first d.b (Lg.start n hf) z (by omega))
  have hz1 : 1 ≤ z := by omega
  obtain ⟨st, hst'⟩ : ∃ st, Lg.start n hf = st := ⟨_, rfl⟩
  rw [hst'] at HF1 hlen
  have HST := Lib.hid hst'
  rw [hst']
  have H0 : Hid (Lg.num ((Dk.sec d.b st).take 4) < 4294967296) := by
    have h1 := Lg.num_lt ((Dk.sec d.b st).take 4)
    rw [List.length_take, hlen] at h1
    exact h1
  have H1 := Lib.hid (genOf_lo (b := d.b) (s := st))
  have H2 := Lib.hid (genOf_hi (b := d.b) (s := st))
  have H3 := Lib.hid (genOf_eq (b := d.b) (s := st))
  have H4 := Lib.hid (genOf_ne (b := d.b) (s := st))
  have HL := Lib.hid hlen
  have HHL := Lib.hid (Lg.head_len)
  clear h hlen hst hst' hn0 hz
  generalize Lg.genOf d.b st = G at *
  generalize Dk.sec d.b st = S at *
  go_enter Try.func34, Try.ntmps34
  go_wp2_with fail
  refine HH.out.mono ?_
  rintro e w' ⟨A', c', rfl, HC, HBY, rfl⟩
  have HSB : Hid (∀ W, RDiskAt W g s n d → BytesIn No W A' S) := fun W hd => by
    have := bytes_take (HBY.out No W hd id) 32
    rw [HST.out, HF1.out] at this
    exact this
  have hc1 := HC.out.1
  have hc2 := HC.out.2
  obtain ⟨Z, hZ⟩ : ∃ Z, 32 * z = Z := ⟨_, rfl⟩
  rw [hZ] at hc1 ⊢
  have hZ1 : 32 ≤ Z := by omega
  have hs4 := slice_front A' Z c' 4 hc1 (by omega)
  have hs32 := slice_front A' Z c' 32 hc1 (by omega)
  rw [show ((4 : Nat) : Int) = 4 from rfl] at hs4
  rw [show ((32 : Nat) : Int) = 32 from rfl] at hs32
  clear HH HBY HF1 HC hZ hz1
  go_wp2_with fail
  refine (rnumber_any No A' 4 c' (S.take 4) w (by rw [List.length_take, HL.out]; rfl) (by omega) (bytes_take (HSB.out w HD.out) 4)).mono ?_
  rintro e w' ⟨rfl, rfl⟩
  have h0 := H0.out
  generalize Lg.num (S.take 4) = x at *
  by_cases h1 : x < 1
  · have HE := Lib.hid (H1.out h1)
    have d1 : ((x : Int) == 0) = true := by rw [beq_iff_eq]; omega
    clear H0 H1 H2 H3 H4 h1 h0
    go_wp2_with fail
    go_quiet (fail)
    go_wp2
    go_ret
    exact ⟨by rw [HE.out]; rfl, below_drewN _ _ _⟩
  have d1 : ((x : Int) == 0) = false := by rw [beq_eq_false_iff_ne]; omega
  by_cases h2 : 2147483647 < x
  · have HE := Lib.hid (H2.out h2)
    have d2 : decide ((2147483647 : Int) < (x : Int)) = true := decide_eq_true (by omega)
    clear H0 H1 H2 H3 H4 h1 h2 h0
    go_wp2_with fail
    go_quiet (fail)
    go_wp2
    go_ret
    exact ⟨by rw [HE.out]; rfl, below_drewN _ _ _⟩
  have d2 : decide ((2147483647 : Int) < (x : Int)) = false := decide_eq_false (by omega)
  have hcase : decide (S = Lg.head x) = true ∧ G = x ∨ decide (S = Lg.head x) = false ∧ G = 0 := by
    by_cases h3 : S = Lg.head x
    · exact .inl ⟨decide_eq_true h3, H3.out h1 h2 h3⟩
    · exact .inr ⟨decide_eq_false h3, H4.out h1 h2 h3⟩
  have hx : x ≤ 4294967295 := by omega
  have HG1 := Lib.hid (rhead_any x hx w.drew)
  have HG2 : Hid (∀ w2 A2 c2, OwnB w2 w.drew.heap.size (.slice A2 32 c2) (Lg.head x) → Below w.drew.heap.size w.drew w2 → Calls Try.prog 53 #[.slice A' 32 c', .slice A2 32 c2] w2 fun e w' => e = .returned (.bool (decide (S = Lg.head x))) ∧ Below w.heap.size w w') := fun w2 A2 c2 ho hb => by
    have hb' : Below w.heap.size w w2 := ⟨hb.os, hb.tape, hb.output, hb.size, hb.block⟩
    obtain ⟨Ax, cx, e, _, _, hby⟩ := ho.slice
    injection e with e1 e2 e3
    subst e1
    refine (bsame_b A' A2 c' c2 S (Lg.head x) 32 w2 HL.out (HHL.out x) (by omega) (HSB.out w2 (HD.out.below hb')) (hby No (fun _ h => h.elim))).mono fun _ _ ⟨e1, e2⟩ => ⟨e1, hb'.trans (e2.mono hb'.size)⟩
  clear H0 H1 H2 H3 H4 h1 h2 h0
  rcases hcase with ⟨hd, hG⟩ | ⟨hd, hG⟩
  all_goals
    rw [hd] at HG2
    have HG := Lib.hid hG
    clear hd hG
    go_wp2_with fail
    go_region_held3 (fun _ => True) (exact trivial) (first
        | (go_at_call 53; refine (HG2.out w2 A2 c2 ho2 hb2).mono ?_; rintro e w3 ⟨rfl, hb3⟩)
        | (go_at_call 38; refine HG1.out.mono ?_; rintro e w2 ⟨A2, c2, rfl, ho2, hb2⟩))
    have HB3 := Lib.hid hb3
    clear hb3
    go_wp2
    go_ret
    exact ⟨by rw [HG.out]; rfl, HB3.out⟩
end Go.Proofs.Ytoocifoglhhnmaa
