/- The law's own same: two logs, two disks. -/
import Derived.Test.YtoocifoglhhnmaaLogRefJ
namespace Go.Proofs.Ytoocifoglhhnmaa
open Go.RowKit
set_option linter.unusedVariables false

set_option maxHeartbeats 4000000 in
set_option maxRecDepth 100000 in
theorem same_nil (w W : World) (g s g' s' n : Nat) (d : Dk.D) (hd : DiskAt W g s n d) (hr : RDiskAt W g' s' n d) :
    Calls Try.prog 23 #[.pointer none, .pointer none, .pointer (some ⟨g, 0, none⟩), .pointer (some ⟨g', 0, none⟩)] W fun e w' => e = .returned (.bool true) ∧ Below W.heap.size W w' := by
  have hn1 := hd.n1
  obtain ⟨L, hL⟩ : ∃ L, 32 * n = L := ⟨_, rfl⟩
  have hdv : (L : Int) / 32 = (n : Int) := by omega
  have HL := Lib.hid hL
  have hL4 : L ≤ 200000 := by omega
  have HD := Lib.hid hd
  have HRD := Lib.hid hr
  have HC0 : Hid (∀ W', Below W.heap.size W W' → W'.cell? ⟨g', 0, none⟩ = some (.slice (some ⟨s', 0, none⟩) L L)) := fun W' hb => by
    have := (hr.below hb).c0
    rw [hL] at this
    exact this
  clear hL hd hr
  go_enter Try.func23, Try.ntmps23
  go_wp2_with fail
  go_loopg [8, 9, 10, 11] n (fun gk s8 s9 s10 s11 V => ∃ j : Nat, j + gk = n ∧ s8 = .bool false ∧ s9 = .int .i64 j ∧ Hid (Below W.heap.size W V))
  case atStart => exact ⟨0, by omega, rfl, rfl, Below.refl _ _⟩
  case round =>
    obtain ⟨j, hjk, rfl, rfl, HB⟩ := hrel
    have x0 := HC0.out wr HB.out
    cases gk with
    | succ gk =>
      have d1 : decide ((j : Int) < (n : Int)) = true := decide_eq_true (by omega)
      have d2 : decide (j < n) = true := decide_eq_true (by omega)
      have HRE := Lib.hid (read_ok g s n d j wr (HD.out.below HB.out) (by omega))
      obtain ⟨A2, hsl, hsb⟩ := slice_any (some ⟨s', 0, none⟩) L L (32 * j) (32 * j + 32) 32 (32 * (j : Int)) (32 * (j : Int) + 32) (by omega) (by omega) rfl (by have := HL.out; omega) (Nat.le_refl _)
      have HLS : Hid ((Dk.sec d.b j).length = 32) := Dk.sec_len HD.out.good.len (by omega)
      have HSA : Hid (∀ w1, w1.heap[wr.heap.size]? = some (.cells ((Dk.sec d.b j).map bv).toArray 5 (0, 0)) → Below wr.heap.size wr w1 → Calls Try.prog 53 #[.slice (some ⟨wr.heap.size, 0, none⟩) 32 32, .slice A2 32 (L - 32 * j)] w1 fun e w' => e = .returned (.bool true) ∧ Below W.heap.size W w') := fun w1 h1 h2 => by
        have hb' := HB.out.trans (h2.mono HB.out.size)
        have hby := hsb No w1 d.b (by rw [HRD.out.good.len, HL.out]) (CellsIn.of_block (HRD.out.below hb').row id)
        have := bsame_b (some ⟨wr.heap.size, 0, none⟩) A2 32 (L - 32 * j) (Dk.sec d.b j) (Dk.sec d.b j) 32 w1 HLS.out HLS.out (by omega) (CellsIn.of_block h1 id) hby
        rw [decide_eq_true rfl] at this
        exact this.mono fun _ _ ⟨e1, e2⟩ => ⟨e1, hb'.trans (e2.mono hb'.size)⟩
      clear hsb
      go_wp2_with fail
      refine HRE.out.mono ?_
      rintro e w1 ⟨rfl, h1, h2⟩
      have x1 := HC0.out w1 (HB.out.trans (h2.mono HB.out.size))
      have HS1 := Lib.hid (HSA.out w1 h1 h2)
      clear h1 h2 HSA HRE
      go_wp2_with fail
      refine HS1.out.mono ?_
      rintro e w2 ⟨rfl, hb2⟩
      have HB2 := Lib.hid hb2
      clear hb2
      go_wp2
      go_roundg gk
      case measure => omega
      case rel => exact ⟨j + 1, by omega, rfl, by first | rfl | go_num, HB2.out⟩
    | zero =>
      obtain rfl : j = n := by omega
      have d1 : decide ((j : Int) < (j : Int)) = false := decide_eq_false (by omega)
      go_wp2_with fail
      go_quiet (fail)
      go_wp2
      go_ret
      exact ⟨rfl, HB.out.trans (below_drewN _ _ _)⟩

set_option maxHeartbeats 4000000 in
set_option maxRecDepth 100000 in
theorem same_log (w W : World) {F G : Nat → Prop} (lb lr g s g' s' n : Nat) (x : Lg.L) (d : Dk.D) (hl : LL w W F lb g s n x d) (hrl : RLog W G lr g' s' n x d) (hd : DiskAt W g s n d) (hr : RDiskAt W g' s' n d) :
    Calls Try.prog 23 #[.pointer (some ⟨lb, 0, none⟩), .pointer (some ⟨lr, 0, none⟩), .pointer (some ⟨g, 0, none⟩), .pointer (some ⟨g', 0, none⟩)] W fun e w' => e = .returned (.bool true) ∧ Below W.heap.size W w' := by
  have hn1 := hd.n1
  obtain ⟨L, hL⟩ : ∃ L, 32 * n = L := ⟨_, rfl⟩
  have hdv : (L : Int) / 32 = (n : Int) := by omega
  have HL := Lib.hid hL
  have hL4 : L ≤ 200000 := by omega
  have HD := Lib.hid hd
  have HRD := Lib.hid hr
  have HC0 : Hid (∀ W', Below W.heap.size W W' → W'.cell? ⟨g', 0, none⟩ = some (.slice (some ⟨s', 0, none⟩) L L)) := fun W' hb => by
    have := (hr.below hb).c0
    rw [hL] at this
    exact this
  clear hL hd hr
  go_enter Try.func23, Try.ntmps23
  go_wp2_with fail
  go_loopg [8, 9, 10, 11] n (fun gk s8 s9 s10 s11 V => ∃ j : Nat, j + gk = n ∧ s8 = .bool false ∧ s9 = .int .i64 j ∧ Hid (Below W.heap.size W V))
  case atStart => exact ⟨0, by omega, rfl, rfl, Below.refl _ _⟩
  case round =>
    obtain ⟨j, hjk, rfl, rfl, HB⟩ := hrel
    have x0 := HC0.out wr HB.out
    cases gk with
    | succ gk =>
      have d1 : decide ((j : Int) < (n : Int)) = true := decide_eq_true (by omega)
      have d2 : decide (j < n) = true := decide_eq_true (by omega)
      have HRE := Lib.hid (read_ok g s n d j wr (HD.out.below HB.out) (by omega))
      obtain ⟨A2, hsl, hsb⟩ := slice_any (some ⟨s', 0, none⟩) L L (32 * j) (32 * j + 32) 32 (32 * (j : Int)) (32 * (j : Int) + 32) (by omega) (by omega) rfl (by have := HL.out; omega) (Nat.le_refl _)
      have HLS : Hid ((Dk.sec d.b j).length = 32) := Dk.sec_len HD.out.good.len (by omega)
      have HSA : Hid (∀ w1, w1.heap[wr.heap.size]? = some (.cells ((Dk.sec d.b j).map bv).toArray 5 (0, 0)) → Below wr.heap.size wr w1 → Calls Try.prog 53 #[.slice (some ⟨wr.heap.size, 0, none⟩) 32 32, .slice A2 32 (L - 32 * j)] w1 fun e w' => e = .returned (.bool true) ∧ Below W.heap.size W w') := fun w1 h1 h2 => by
        have hb' := HB.out.trans (h2.mono HB.out.size)
        have hby := hsb No w1 d.b (by rw [HRD.out.good.len, HL.out]) (CellsIn.of_block (HRD.out.below hb').row id)
        have := bsame_b (some ⟨wr.heap.size, 0, none⟩) A2 32 (L - 32 * j) (Dk.sec d.b j) (Dk.sec d.b j) 32 w1 HLS.out HLS.out (by omega) (CellsIn.of_block h1 id) hby
        rw [decide_eq_true rfl] at this
        exact this.mono fun _ _ ⟨e1, e2⟩ => ⟨e1, hb'.trans (e2.mono hb'.size)⟩
      clear hsb
      go_wp2_with fail
      refine HRE.out.mono ?_
      rintro e w1 ⟨rfl, h1, h2⟩
      have x1 := HC0.out w1 (HB.out.trans (h2.mono HB.out.size))
      have HS1 := Lib.hid (HSA.out w1 h1 h2)
      clear h1 h2 HSA HRE
      go_wp2_with fail
      refine HS1.out.mono ?_
      rintro e w2 ⟨rfl, hb2⟩
      have HB2 := Lib.hid hb2
      clear hb2
      go_wp2
      go_roundg gk
      case measure => omega
      case rel => exact ⟨j + 1, by omega, rfl, by first | rfl | go_num, HB2.out⟩
    | zero =>
      obtain rfl : j = n := by omega
      have d1 : decide ((j : Int) < (j : Int)) = false := decide_eq_false (by omega)
      have HLW := Lib.hid (hl.below HB.out)
      have HB0 : Hid (Below W.heap.size W wr.drew) := HB.out.trans ((below_drew wr).mono HB.out.size)
      obtain ⟨Ar, cr, ht0, hrow0⟩ := hrl.top
      have hgd := hl.good
      obtain ⟨hf, gg, recs, fin, bro⟩ := x
      have hfn := hgd.fin
      have hg1 := hgd.g1
      have hcnt := hgd.cnt
      simp only at ht0 hrow0 hfn hg1 hcnt
      have HROW := Lib.hid hrow0
      obtain ⟨k, hk⟩ : ∃ k, recs.length = k := ⟨_, rfl⟩
      have HKK := Lib.hid hk
      rw [hk] at ht0 hcnt
      have HT := Lib.hid ht0
      obtain ⟨z, hz⟩ : ∃ z, j / 2 = z := ⟨_, rfl⟩
      have HZ := Lib.hid hz
      rw [hz] at hfn
      obtain ⟨lf, hlf⟩ : ∃ lf, z - fin = lf := ⟨_, rfl⟩
      have HLF := Lib.hid hlf
      have hsub : (z : Int) - (fin : Int) = (lf : Int) := by omega
      have hz4 : z ≤ 2048 := by omega
      have hws : IntKind.i64.wrap ((z : Int) - (fin : Int)) = (lf : Int) := by rw [IntKind.wrap_i64]; omega
      have hwl : IntKind.i64.wrap (lf : Int) = (lf : Int) := by rw [IntKind.wrap_i64]; omega
      have hb1 : ((gg : Int) == (gg : Int)) = true := beq_self_eq_true _
      have hb2 : ((lf : Int) == (lf : Int)) = true := beq_self_eq_true _
      have hb3 : (d.writes == d.writes) = true := beq_self_eq_true _
      have HSF : Hid (∀ V, Below W.heap.size W V → V.cell? ⟨lr, 2, none⟩ = some (.int .i64 (gg : Int)) ∧ V.cell? ⟨lr, 3, none⟩ = some (.slice Ar k cr) ∧ V.cell? ⟨lr, 4, none⟩ = some (.int .i64 (fin : Int)) ∧ V.cell? ⟨g', 4, none⟩ = some (.int .i64 d.writes)) := fun V hb => ⟨(HT.out.below hb).cell 2 _ rfl, (HT.out.below hb).cell 3 _ rfl, (HT.out.below hb).cell 4 _ rfl, (HRD.out.below hb).c4⟩
      have hs0 := HSF.out wr HB.out
      have HC1 : Hid (Calls Try.prog 25 #[.pointer (some ⟨lb, 0, none⟩)] wr.drew fun e V => ∃ A c, e = .returned (.slice A k c) ∧ (V.cell? ⟨lr, 2, none⟩ = some (.int .i64 (gg : Int)) ∧ V.cell? ⟨lr, 3, none⟩ = some (.slice Ar k cr) ∧ V.cell? ⟨lr, 4, none⟩ = some (.int .i64 (fin : Int)) ∧ V.cell? ⟨g', 4, none⟩ = some (.int .i64 d.writes)) ∧ Hid (Below W.heap.size W V ∧ RowIn No V A recs)) := by
        refine (ll_records (hl.below HB0.out)).mono fun e V ⟨A, c, e1, ⟨e2, _⟩, e3⟩ => ?_
        have hb := HB0.out.trans (e3.mono HB0.out.size)
        exact ⟨A, c, by rw [e1]; simp only; rw [HKK.out], HSF.out V hb, hb, e2.less (fun _ _ => False.elim)⟩
      have HC2 : Hid (∀ V1 A c, Hid (Below W.heap.size W V1 ∧ RowIn No V1 A recs) → Calls Try.prog 24 #[.slice A k c, .slice Ar k cr] V1 fun e V => e = .returned (.bool true) ∧ (V.cell? ⟨lr, 2, none⟩ = some (.int .i64 (gg : Int)) ∧ V.cell? ⟨lr, 3, none⟩ = some (.slice Ar k cr) ∧ V.cell? ⟨lr, 4, none⟩ = some (.int .i64 (fin : Int)) ∧ V.cell? ⟨g', 4, none⟩ = some (.int .i64 d.writes)) ∧ Hid (Below W.heap.size W V)) := fun V1 A c h1 => by
        have := rsame_any No A Ar k k c cr recs recs V1 HKK.out HKK.out (by omega) (by omega) h1.out.2 ((HROW.out.keep (Kept.of_below h1.out.1)).less (fun _ _ => False.elim))
        rw [decide_eq_true rfl] at this
        refine this.mono fun e V ⟨e1, q, e2⟩ => ?_
        have hb : Below W.heap.size W V := by rw [e2]; exact h1.out.1.trans (below_drewN _ _ _)
        exact ⟨e1, HSF.out V hb, hb⟩
      have HC3 : Hid (∀ V1, Hid (Below W.heap.size W V1) → Calls Try.prog 27 #[.pointer (some ⟨lb, 0, none⟩)] V1 fun e V => e = .returned (.int .i64 (gg : Int)) ∧ (V.cell? ⟨lr, 2, none⟩ = some (.int .i64 (gg : Int)) ∧ V.cell? ⟨lr, 3, none⟩ = some (.slice Ar k cr) ∧ V.cell? ⟨lr, 4, none⟩ = some (.int .i64 (fin : Int)) ∧ V.cell? ⟨g', 4, none⟩ = some (.int .i64 d.writes)) ∧ Hid (Below W.heap.size W V)) := fun V1 h1 =>
        (ll_gen (hl.below h1.out)).mono fun e V ⟨e1, e2⟩ => ⟨e1, HSF.out V (by rw [← e2]; exact h1.out), by rw [← e2]; exact h1.out⟩
      have HC4 : Hid (∀ V1, Hid (Below W.heap.size W V1) → Calls Try.prog 26 #[.pointer (some ⟨lb, 0, none⟩)] V1 fun e V => e = .returned (.int .i64 (lf : Int)) ∧ (V.cell? ⟨lr, 2, none⟩ = some (.int .i64 (gg : Int)) ∧ V.cell? ⟨lr, 3, none⟩ = some (.slice Ar k cr) ∧ V.cell? ⟨lr, 4, none⟩ = some (.int .i64 (fin : Int)) ∧ V.cell? ⟨g', 4, none⟩ = some (.int .i64 d.writes)) ∧ Hid (Below W.heap.size W V)) := fun V1 h1 =>
        (ll_left (hl.below h1.out)).mono fun e V ⟨e1, q, e2⟩ => by
          have hb : Below W.heap.size W V := by rw [e2]; exact h1.out.trans (below_drewN _ _ _)
          exact ⟨by rw [e1]; simp only; rw [HZ.out, HLF.out], HSF.out V hb, hb⟩
      have HC5 : Hid (∀ V1, Hid (Below W.heap.size W V1) → Calls Try.prog 46 #[.pointer (some ⟨g', 0, none⟩)] V1 fun e V => e = .returned (.int .i64 (z : Int)) ∧ (V.cell? ⟨lr, 2, none⟩ = some (.int .i64 (gg : Int)) ∧ V.cell? ⟨lr, 3, none⟩ = some (.slice Ar k cr) ∧ V.cell? ⟨lr, 4, none⟩ = some (.int .i64 (fin : Int)) ∧ V.cell? ⟨g', 4, none⟩ = some (.int .i64 d.writes)) ∧ Hid (Below W.heap.size W V)) := fun V1 h1 =>
        (rper_any g' s' j z d V1 (HRD.out.below h1.out) HZ.out).mono fun e V ⟨e1, e2⟩ => ⟨e1, HSF.out V (by rw [← e2]; exact h1.out), by rw [← e2]; exact h1.out⟩
      have HC6 : Hid (∀ V1, Hid (Below W.heap.size W V1) → Calls Try.prog 54 #[.pointer (some ⟨g, 0, none⟩)] V1 fun e V => e = .returned (.int .i64 d.writes) ∧ (V.cell? ⟨lr, 2, none⟩ = some (.int .i64 (gg : Int)) ∧ V.cell? ⟨lr, 3, none⟩ = some (.slice Ar k cr) ∧ V.cell? ⟨lr, 4, none⟩ = some (.int .i64 (fin : Int)) ∧ V.cell? ⟨g', 4, none⟩ = some (.int .i64 d.writes)) ∧ Hid (Below W.heap.size W V)) := fun V1 h1 =>
        (writes_any g s j d V1 (HD.out.below h1.out)).mono fun e V ⟨e1, e2⟩ => ⟨e1, HSF.out V (by rw [← e2]; exact h1.out), by rw [← e2]; exact h1.out⟩
      clear hk hz hlf HSF HLW hgd ht0 hrow0 hcnt hfn hg1
      generalize hdw : d.writes = dw at *
      have HDW := Lib.hid hdw
      clear hdw hjk
      go_wp2_with fail
      go_region_held3 (fun V => V.cell? ⟨lr, 2, none⟩ = some (.int .i64 (gg : Int)) ∧ V.cell? ⟨lr, 3, none⟩ = some (.slice Ar k cr) ∧ V.cell? ⟨lr, 4, none⟩ = some (.int .i64 (fin : Int)) ∧ V.cell? ⟨g', 4, none⟩ = some (.int .i64 dw)) (first | exact hs6 | exact hs5 | exact hs4 | exact hs3 | exact hs2 | exact hs1 | exact hs0)
        (first
          | (go_at_call 54; refine (HC6.out w5 HB5).mono ?_; rintro e w6 ⟨rfl, hs6, HB6⟩)
          | (go_at_call 46; refine (HC5.out w4 HB4).mono ?_; rintro e w5 ⟨rfl, hs5, HB5⟩)
          | (go_at_call 26; refine (HC4.out w3 HB3).mono ?_; rintro e w4 ⟨rfl, hs4, HB4⟩)
          | (go_at_call 27; refine (HC3.out w2 HB2).mono ?_; rintro e w3 ⟨rfl, hs3, HB3⟩)
          | (go_at_call 24; refine (HC2.out w1 A1 c1 HR1).mono ?_; rintro e w2 ⟨rfl, hs2, HB2⟩)
          | (go_at_call 25; refine HC1.out.mono ?_; rintro e w1 ⟨A1, c1, rfl, hs1, HR1⟩))
      go_wp2
      go_ret
      exact ⟨rfl, HB6.out⟩
end Go.Proofs.Ytoocifoglhhnmaa
