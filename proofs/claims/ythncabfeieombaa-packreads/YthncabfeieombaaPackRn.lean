/- Contract: the document's answer on a number's bytes. -/
import Derived.Test.YthncabfeieombaaPackRf
namespace Go.Proofs.Ythncabfeieombaa
open Go.RowKit

theorem top_wrap : IntKind.u64.wrap (wrap64 9223372036854775808) = 9223372036854775808 := by decide +kernel

set_option maxHeartbeats 2000000 in
set_option maxRecDepth 100000 in
theorem rnumber_any (n : Int) (w : World) (h1 : -4611686018427387904 ≤ n) (h2 : n ≤ 4611686018427387904) :
    Calls Try.prog 23 #[.int .i64 n] w fun e w' => ∃ v', e = .returned v' ∧
      w'.ownsRow w.heap.size 5 1 v' (Pk.num (Pk.zig n)).length ((Pk.num (Pk.zig n)).map bv) ∧ Below w.heap.size w w' := by
  obtain ⟨i0, hi0, hz0, hz1, hz2⟩ := info_parts3 byte_info
  have HI := Lib.hid hi0
  have HZ0 := Lib.hid hz0
  have HZ1 := Lib.hid hz1
  have HZ2 := Lib.hid hz2
  clear hi0 hz0 hz1 hz2
  have HZ := Lib.hid (Pk.zig_le h1 h2)
  by_cases hneg : n < 0
  · obtain ⟨U, hUe⟩ : ∃ U : Nat, Pk.zig n = U := ⟨_, rfl⟩
    have hU : U ≤ 9223372036854775808 := by rw [← hUe]; exact HZ.out
    have hn : n = (-1 - (U : Int)) / 2 ∧ U % 2 = 1 := by unfold Pk.zig at hUe; rw [if_pos hneg] at hUe; omega
    rw [hUe]
    have HN2' : Hid ((2 : Int) * (-1 - n) + 1 = (U : Int)) := by unfold Hid; omega
    clear hUe HZ hn
    go_enter Try.func23, Try.ntmps23
    go_wp2
    have HB0 : Hid (Below w.heap.size w (w.alloc (.cells #[] 5))) := (Below.refl _ _).alloc (Nat.le_refl _) _
    have HO0 : Hid ((w.alloc (.cells #[] 5)).ownsRow w.heap.size 5 1 (.slice (some ⟨w.heap.size, 0, none⟩) 0 0) 0 []) :=
      ⟨rfl, .inr ⟨w.heap.size, 0, #[], rfl, Nat.le_refl _, heap_alloc_new w _, Nat.le_refl _, by decide, rfl, rfl⟩⟩
    generalize w.alloc (.cells #[] 5) = W0 at *
    generalize hG : w.heap.size = g at *
    have HG := Lib.hid hG
    clear hG
    have HG0 : Hid (g ≤ W0.heap.size) := by have := HB0.out.size; have e := HG.out; unfold Hid; omega
    go_loopg [3, 4] U (fun gk s3 s4 W => ∃ (ys : Pk.Bs), s3 = .int .u64 gk ∧ gk ≤ 9223372036854775808 ∧ Hid (Pk.num U = ys ++ Pk.num gk) ∧ Hid (W.ownsRow g 5 1 s4 ys.length (ys.map bv)) ∧ Hid (Below g w W))
    case atStart => exact ⟨[], by rw [← HN2'.out], hU, rfl, HO0.out, HB0.out⟩
    case round =>
      obtain ⟨ys, rfl, hgk, HN, HO, HB⟩ := hrel
      have hsz : g ≤ wr.heap.size := by have := HB.out.size; have e := HG.out; omega
      have hys : ys.length ≤ 20 := by
        have e1 := congrArg List.length HN.out
        have e2 := Pk.num_ten hU
        rw [List.length_append] at e1
        omega
      by_cases hlt : gk < 128
      · have HN2 : Hid (Pk.num U = ys ++ [UInt8.ofNat gk]) := by rw [← Pk.num_small hlt]; exact HN.out
        have HBV : Hid (Value.int .u8 (gk : Int) = bv (UInt8.ofNat gk)) := by unfold bv; rw [Pk.toNat_ofNat (by omega)]; rfl
        have A2 : Hid (∀ u ∈ [Value.int .u8 gk], u.oneCell' = true) := by intro u hu; simp at hu; subst hu; rfl
        have A3 : Hid (ys.length + 1 ≤ maxLen) := by unfold Hid maxLen; omega
        have A4 : Hid ((ys.length + 1) * 1 ≤ 140737488355328) := by unfold Hid; omega
        have A5 : Hid (g ≤ (wr.alloc (.cells #[.int .u8 gk] 5)).heap.size) := by unfold Hid; simp; omega
        have A6 : Hid (∀ w1, (wr.alloc (.cells #[.int .u8 gk] 5)).grownBy w1 u4.ownBlock → Below g w w1) := fun w1 hg => (HB.out.alloc hsz (.cells #[.int .u8 gk] 5)).grown hg A5.out (fun k hk => (HO.out.lt k hk).1)
        have q1 : (gk : Int) % 128 = gk := by omega
        have q2 : (gk : Int) / 128 = 0 := by omega
        clear HN
        go_wp2_with (at_builtin; refine wpList_append_own_at (wr.alloc (.cells #[.int .u8 gk] 5)) rfl (.tmp 25) (.tmp 27) 25 rfl g 5 i0 (.int .u8 0) 1 1 Try.underlying25 HI.out HZ0.out HZ1.out HZ2.out rfl Nat.one_pos u4 ys.length (ys.map bv) rfl (HO.out.alloc (.cells #[.int .u8 gk] 5)) ⟨wr.heap.size, 0, none⟩ 1 1 [.int .u8 gk] rfl rfl (cell_one_new wr (.int .u8 gk) 5) A2.out A3.out A4.out A5.out ?_; intro v1 w1 hown1 hgr1 _ _; have HO1 := Lib.hid hown1; have HB1 := Lib.hid (A6.out w1 hgr1); clear hown1 hgr1)
        go_ret
        have hG := HG.out
        subst hG
        refine ⟨v1, rfl, ?_, HB1.out⟩
        have e1 : (Pk.num U).length = ys.length + 1 := by rw [HN2.out]; simp
        have e2 : (Pk.num U).map bv = ys.map bv ++ [.int .u8 gk] := by rw [HN2.out, HBV.out]; simp
        rw [e1, e2]
        exact HO1.out
      · have HN2 : Hid (Pk.num U = (ys ++ [UInt8.ofNat (gk % 128 + 128)]) ++ Pk.num (gk / 128)) := by
          show _ = _
          rw [HN.out, Pk.num_big hlt]; simp
        have HBV : Hid (Value.int .u8 ((gk : Int) % 128 + 128) = bv (UInt8.ofNat (gk % 128 + 128))) := by unfold bv; rw [Pk.toNat_ofNat (by omega)]; rfl
        have A2 : Hid (∀ u ∈ [Value.int .u8 ((gk : Int) % 128 + 128)], u.oneCell' = true) := by intro u hu; simp at hu; subst hu; rfl
        have A3 : Hid (ys.length + 1 ≤ maxLen) := by unfold Hid maxLen; omega
        have A4 : Hid ((ys.length + 1) * 1 ≤ 140737488355328) := by unfold Hid; omega
        have A5 : Hid (g ≤ (wr.alloc (.cells #[.int .u8 ((gk : Int) % 128 + 128)] 5)).heap.size) := by unfold Hid; simp; omega
        have A6 : Hid (∀ w1, (wr.alloc (.cells #[.int .u8 ((gk : Int) % 128 + 128)] 5)).grownBy w1 u4.ownBlock → Below g w w1) := fun w1 hg => (HB.out.alloc hsz (.cells #[.int .u8 ((gk : Int) % 128 + 128)] 5)).grown hg A5.out (fun k hk => (HO.out.lt k hk).1)
        have q2 : ((gk : Int) / 128 == 0) = false := beq_eq_false_iff_ne.2 (by omega)
        clear HN
        go_wp2_with (at_builtin; refine wpList_append_own_at (wr.alloc (.cells #[.int .u8 ((gk : Int) % 128 + 128)] 5)) rfl (.tmp 29) (.tmp 32) 25 rfl g 5 i0 (.int .u8 0) 1 1 Try.underlying25 HI.out HZ0.out HZ1.out HZ2.out rfl Nat.one_pos u4 ys.length (ys.map bv) rfl (HO.out.alloc (.cells #[.int .u8 ((gk : Int) % 128 + 128)] 5)) ⟨wr.heap.size, 0, none⟩ 1 1 [.int .u8 ((gk : Int) % 128 + 128)] rfl rfl (cell_one_new wr (.int .u8 ((gk : Int) % 128 + 128)) 5) A2.out A3.out A4.out A5.out ?_; intro v1 w1 hown1 hgr1 _ _; have HO1 := Lib.hid hown1; have HB1 := Lib.hid (A6.out w1 hgr1); clear hown1 hgr1)
        go_roundg (gk / 128)
        case measure => omega
        case rel =>
          refine ⟨ys ++ [UInt8.ofNat (gk % 128 + 128)], by first | rfl | go_num, by omega, HN2.out, ?_, HB1.out⟩
          show World.ownsRow _ _ _ _ _ _ _
          rw [List.length_append, List.length_singleton, List.map_append, List.map_singleton, ← HBV.out]
          exact HO1.out
  · by_cases htop : n = 4611686018427387904
    · subst htop
      have hUe : Pk.zig 4611686018427387904 = 9223372036854775808 := by decide
      rw [hUe]
      obtain ⟨U, hUd⟩ : ∃ U : Nat, U = 9223372036854775808 := ⟨_, rfl⟩
      have hU : U ≤ 9223372036854775808 := by omega
      have HUI : Hid ((U : Int) = 9223372036854775808) := by unfold Hid; omega
      rw [← hUd]
      clear hUe HZ hUd
      go_enter Try.func23, Try.ntmps23
      go_wp2
      have HB0 : Hid (Below w.heap.size w (w.alloc (.cells #[] 5))) := (Below.refl _ _).alloc (Nat.le_refl _) _
      have HO0 : Hid ((w.alloc (.cells #[] 5)).ownsRow w.heap.size 5 1 (.slice (some ⟨w.heap.size, 0, none⟩) 0 0) 0 []) :=
        ⟨rfl, .inr ⟨w.heap.size, 0, #[], rfl, Nat.le_refl _, heap_alloc_new w _, Nat.le_refl _, by decide, rfl, rfl⟩⟩
      generalize w.alloc (.cells #[] 5) = W0 at *
      generalize hG : w.heap.size = g at *
      have HG := Lib.hid hG
      clear hG
      have HG0 : Hid (g ≤ W0.heap.size) := by have := HB0.out.size; have e := HG.out; unfold Hid; omega
      go_loopg [3, 4] U (fun gk s3 s4 W => ∃ (ys : Pk.Bs), s3 = .int .u64 gk ∧ gk ≤ 9223372036854775808 ∧ Hid (Pk.num U = ys ++ Pk.num gk) ∧ Hid (W.ownsRow g 5 1 s4 ys.length (ys.map bv)) ∧ Hid (Below g w W))
      case atStart => exact ⟨[], by rw [HUI.out, top_wrap], hU, rfl, HO0.out, HB0.out⟩
      case round =>
        obtain ⟨ys, rfl, hgk, HN, HO, HB⟩ := hrel
        have hsz : g ≤ wr.heap.size := by have := HB.out.size; have e := HG.out; omega
        have hys : ys.length ≤ 20 := by
          have e1 := congrArg List.length HN.out
          have e2 := Pk.num_ten hU
          rw [List.length_append] at e1
          omega
        by_cases hlt : gk < 128
        · have HN2 : Hid (Pk.num U = ys ++ [UInt8.ofNat gk]) := by rw [← Pk.num_small hlt]; exact HN.out
          have HBV : Hid (Value.int .u8 (gk : Int) = bv (UInt8.ofNat gk)) := by unfold bv; rw [Pk.toNat_ofNat (by omega)]; rfl
          have A2 : Hid (∀ u ∈ [Value.int .u8 gk], u.oneCell' = true) := by intro u hu; simp at hu; subst hu; rfl
          have A3 : Hid (ys.length + 1 ≤ maxLen) := by unfold Hid maxLen; omega
          have A4 : Hid ((ys.length + 1) * 1 ≤ 140737488355328) := by unfold Hid; omega
          have A5 : Hid (g ≤ (wr.alloc (.cells #[.int .u8 gk] 5)).heap.size) := by unfold Hid; simp; omega
          have A6 : Hid (∀ w1, (wr.alloc (.cells #[.int .u8 gk] 5)).grownBy w1 u4.ownBlock → Below g w w1) := fun w1 hg => (HB.out.alloc hsz (.cells #[.int .u8 gk] 5)).grown hg A5.out (fun k hk => (HO.out.lt k hk).1)
          have q1 : (gk : Int) % 128 = gk := by omega
          have q2 : (gk : Int) / 128 = 0 := by omega
          clear HN
          go_wp2_with (at_builtin; refine wpList_append_own_at (wr.alloc (.cells #[.int .u8 gk] 5)) rfl (.tmp 25) (.tmp 27) 25 rfl g 5 i0 (.int .u8 0) 1 1 Try.underlying25 HI.out HZ0.out HZ1.out HZ2.out rfl Nat.one_pos u4 ys.length (ys.map bv) rfl (HO.out.alloc (.cells #[.int .u8 gk] 5)) ⟨wr.heap.size, 0, none⟩ 1 1 [.int .u8 gk] rfl rfl (cell_one_new wr (.int .u8 gk) 5) A2.out A3.out A4.out A5.out ?_; intro v1 w1 hown1 hgr1 _ _; have HO1 := Lib.hid hown1; have HB1 := Lib.hid (A6.out w1 hgr1); clear hown1 hgr1)
          go_ret
          have hG := HG.out
          subst hG
          refine ⟨v1, rfl, ?_, HB1.out⟩
          have e1 : (Pk.num U).length = ys.length + 1 := by rw [HN2.out]; simp
          have e2 : (Pk.num U).map bv = ys.map bv ++ [.int .u8 gk] := by rw [HN2.out, HBV.out]; simp
          rw [e1, e2]
          exact HO1.out
        · have HN2 : Hid (Pk.num U = (ys ++ [UInt8.ofNat (gk % 128 + 128)]) ++ Pk.num (gk / 128)) := by
            show _ = _
            rw [HN.out, Pk.num_big hlt]; simp
          have HBV : Hid (Value.int .u8 ((gk : Int) % 128 + 128) = bv (UInt8.ofNat (gk % 128 + 128))) := by unfold bv; rw [Pk.toNat_ofNat (by omega)]; rfl
          have A2 : Hid (∀ u ∈ [Value.int .u8 ((gk : Int) % 128 + 128)], u.oneCell' = true) := by intro u hu; simp at hu; subst hu; rfl
          have A3 : Hid (ys.length + 1 ≤ maxLen) := by unfold Hid maxLen; omega
          have A4 : Hid ((ys.length + 1) * 1 ≤ 140737488355328) := by unfold Hid; omega
          have A5 : Hid (g ≤ (wr.alloc (.cells #[.int .u8 ((gk : Int) % 128 + 128)] 5)).heap.size) := by unfold Hid; simp; omega
          have A6 : Hid (∀ w1, (wr.alloc (.cells #[.int .u8 ((gk : Int) % 128 + 128)] 5)).grownBy w1 u4.ownBlock → Below g w w1) := fun w1 hg => (HB.out.alloc hsz (.cells #[.int .u8 ((gk : Int) % 128 + 128)] 5)).grown hg A5.out (fun k hk => (HO.out.lt k hk).1)
          have q2 : ((gk : Int) / 128 == 0) = false := beq_eq_false_iff_ne.2 (by omega)
          clear HN
          go_wp2_with (at_builtin; refine wpList_append_own_at (wr.alloc (.cells #[.int .u8 ((gk : Int) % 128 + 128)] 5)) rfl (.tmp 29) (.tmp 32) 25 rfl g 5 i0 (.int .u8 0) 1 1 Try.underlying25 HI.out HZ0.out HZ1.out HZ2.out rfl Nat.one_pos u4 ys.length (ys.map bv) rfl (HO.out.alloc (.cells #[.int .u8 ((gk : Int) % 128 + 128)] 5)) ⟨wr.heap.size, 0, none⟩ 1 1 [.int .u8 ((gk : Int) % 128 + 128)] rfl rfl (cell_one_new wr (.int .u8 ((gk : Int) % 128 + 128)) 5) A2.out A3.out A4.out A5.out ?_; intro v1 w1 hown1 hgr1 _ _; have HO1 := Lib.hid hown1; have HB1 := Lib.hid (A6.out w1 hgr1); clear hown1 hgr1)
          go_roundg (gk / 128)
          case measure => omega
          case rel =>
            refine ⟨ys ++ [UInt8.ofNat (gk % 128 + 128)], by first | rfl | go_num, by omega, HN2.out, ?_, HB1.out⟩
            show World.ownsRow _ _ _ _ _ _ _
            rw [List.length_append, List.length_singleton, List.map_append, List.map_singleton, ← HBV.out]
            exact HO1.out
    · obtain ⟨U, hUe⟩ : ∃ U : Nat, Pk.zig n = U := ⟨_, rfl⟩
      have hU : U ≤ 9223372036854775808 := by rw [← hUe]; exact HZ.out
      have hn2 : (2 : Int) * n = (U : Int) := by unfold Pk.zig at hUe; rw [if_neg hneg] at hUe; omega
      rw [hUe]
      clear hUe HZ
      go_enter Try.func23, Try.ntmps23
      go_wp2
      have HB0 : Hid (Below w.heap.size w (w.alloc (.cells #[] 5))) := (Below.refl _ _).alloc (Nat.le_refl _) _
      have HO0 : Hid ((w.alloc (.cells #[] 5)).ownsRow w.heap.size 5 1 (.slice (some ⟨w.heap.size, 0, none⟩) 0 0) 0 []) :=
        ⟨rfl, .inr ⟨w.heap.size, 0, #[], rfl, Nat.le_refl _, heap_alloc_new w _, Nat.le_refl _, by decide, rfl, rfl⟩⟩
      generalize w.alloc (.cells #[] 5) = W0 at *
      generalize hG : w.heap.size = g at *
      have HG := Lib.hid hG
      clear hG
      have HG0 : Hid (g ≤ W0.heap.size) := by have := HB0.out.size; have e := HG.out; unfold Hid; omega
      go_loopg [3, 4] U (fun gk s3 s4 W => ∃ (ys : Pk.Bs), s3 = .int .u64 gk ∧ gk ≤ 9223372036854775808 ∧ Hid (Pk.num U = ys ++ Pk.num gk) ∧ Hid (W.ownsRow g 5 1 s4 ys.length (ys.map bv)) ∧ Hid (Below g w W))
      case atStart => exact ⟨[], rfl, hU, rfl, HO0.out, HB0.out⟩
      case round =>
        obtain ⟨ys, rfl, hgk, HN, HO, HB⟩ := hrel
        have hsz : g ≤ wr.heap.size := by have := HB.out.size; have e := HG.out; omega
        have hys : ys.length ≤ 20 := by
          have e1 := congrArg List.length HN.out
          have e2 := Pk.num_ten hU
          rw [List.length_append] at e1
          omega
        by_cases hlt : gk < 128
        · have HN2 : Hid (Pk.num U = ys ++ [UInt8.ofNat gk]) := by rw [← Pk.num_small hlt]; exact HN.out
          have HBV : Hid (Value.int .u8 (gk : Int) = bv (UInt8.ofNat gk)) := by unfold bv; rw [Pk.toNat_ofNat (by omega)]; rfl
          have A2 : Hid (∀ u ∈ [Value.int .u8 gk], u.oneCell' = true) := by intro u hu; simp at hu; subst hu; rfl
          have A3 : Hid (ys.length + 1 ≤ maxLen) := by unfold Hid maxLen; omega
          have A4 : Hid ((ys.length + 1) * 1 ≤ 140737488355328) := by unfold Hid; omega
          have A5 : Hid (g ≤ (wr.alloc (.cells #[.int .u8 gk] 5)).heap.size) := by unfold Hid; simp; omega
          have A6 : Hid (∀ w1, (wr.alloc (.cells #[.int .u8 gk] 5)).grownBy w1 u4.ownBlock → Below g w w1) := fun w1 hg => (HB.out.alloc hsz (.cells #[.int .u8 gk] 5)).grown hg A5.out (fun k hk => (HO.out.lt k hk).1)
          have q1 : (gk : Int) % 128 = gk := by omega
          have q2 : (gk : Int) / 128 = 0 := by omega
          clear HN
          go_wp2_with (at_builtin; refine wpList_append_own_at (wr.alloc (.cells #[.int .u8 gk] 5)) rfl (.tmp 25) (.tmp 27) 25 rfl g 5 i0 (.int .u8 0) 1 1 Try.underlying25 HI.out HZ0.out HZ1.out HZ2.out rfl Nat.one_pos u4 ys.length (ys.map bv) rfl (HO.out.alloc (.cells #[.int .u8 gk] 5)) ⟨wr.heap.size, 0, none⟩ 1 1 [.int .u8 gk] rfl rfl (cell_one_new wr (.int .u8 gk) 5) A2.out A3.out A4.out A5.out ?_; intro v1 w1 hown1 hgr1 _ _; have HO1 := Lib.hid hown1; have HB1 := Lib.hid (A6.out w1 hgr1); clear hown1 hgr1)
          go_ret
          have hG := HG.out
          subst hG
          refine ⟨v1, rfl, ?_, HB1.out⟩
          have e1 : (Pk.num U).length = ys.length + 1 := by rw [HN2.out]; simp
          have e2 : (Pk.num U).map bv = ys.map bv ++ [.int .u8 gk] := by rw [HN2.out, HBV.out]; simp
          rw [e1, e2]
          exact HO1.out
        · have HN2 : Hid (Pk.num U = (ys ++ [UInt8.ofNat (gk % 128 + 128)]) ++ Pk.num (gk / 128)) := by
            show _ = _
            rw [HN.out, Pk.num_big hlt]; simp
          have HBV : Hid (Value.int .u8 ((gk : Int) % 128 + 128) = bv (UInt8.ofNat (gk % 128 + 128))) := by unfold bv; rw [Pk.toNat_ofNat (by omega)]; rfl
          have A2 : Hid (∀ u ∈ [Value.int .u8 ((gk : Int) % 128 + 128)], u.oneCell' = true) := by intro u hu; simp at hu; subst hu; rfl
          have A3 : Hid (ys.length + 1 ≤ maxLen) := by unfold Hid maxLen; omega
          have A4 : Hid ((ys.length + 1) * 1 ≤ 140737488355328) := by unfold Hid; omega
          have A5 : Hid (g ≤ (wr.alloc (.cells #[.int .u8 ((gk : Int) % 128 + 128)] 5)).heap.size) := by unfold Hid; simp; omega
          have A6 : Hid (∀ w1, (wr.alloc (.cells #[.int .u8 ((gk : Int) % 128 + 128)] 5)).grownBy w1 u4.ownBlock → Below g w w1) := fun w1 hg => (HB.out.alloc hsz (.cells #[.int .u8 ((gk : Int) % 128 + 128)] 5)).grown hg A5.out (fun k hk => (HO.out.lt k hk).1)
          have q2 : ((gk : Int) / 128 == 0) = false := beq_eq_false_iff_ne.2 (by omega)
          clear HN
          go_wp2_with (at_builtin; refine wpList_append_own_at (wr.alloc (.cells #[.int .u8 ((gk : Int) % 128 + 128)] 5)) rfl (.tmp 29) (.tmp 32) 25 rfl g 5 i0 (.int .u8 0) 1 1 Try.underlying25 HI.out HZ0.out HZ1.out HZ2.out rfl Nat.one_pos u4 ys.length (ys.map bv) rfl (HO.out.alloc (.cells #[.int .u8 ((gk : Int) % 128 + 128)] 5)) ⟨wr.heap.size, 0, none⟩ 1 1 [.int .u8 ((gk : Int) % 128 + 128)] rfl rfl (cell_one_new wr (.int .u8 ((gk : Int) % 128 + 128)) 5) A2.out A3.out A4.out A5.out ?_; intro v1 w1 hown1 hgr1 _ _; have HO1 := Lib.hid hown1; have HB1 := Lib.hid (A6.out w1 hgr1); clear hown1 hgr1)
          go_roundg (gk / 128)
          case measure => omega
          case rel =>
            refine ⟨ys ++ [UInt8.ofNat (gk % 128 + 128)], by first | rfl | go_num, by omega, HN2.out, ?_, HB1.out⟩
            show World.ownsRow _ _ _ _ _ _ _
            rw [List.length_append, List.length_singleton, List.map_append, List.map_singleton, ← HBV.out]
            exact HO1.out

end Go.Proofs.Ythncabfeieombaa
