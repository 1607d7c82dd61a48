/- Contracts: package pack lays numbers and values behind bytes. -/
import Derived.Test.YthncabfeieombaaPackW
import Derived.Deep.LoopGhost
import Derived.Deep.RegionHeld3
import Derived.StillTailTactics
namespace Go.Proofs.Ythncabfeieombaa
open Go.RowKit

set_option maxHeartbeats 2000000 in
set_option maxRecDepth 100000 in
theorem appendNumber_any (v : Value) (m : Nat) (xs : List Value) (n : Int) (base : Nat) (w : World) (h1 : -4611686018427387904 ≤ n) (h2 : n ≤ 4611686018427387904)
    (hown : w.ownsRow base 5 1 v m xs) (hbase : base ≤ w.heap.size) (hm : m ≤ 1000000000) :
    Calls Try.prog 29 #[v, .int .i64 n] w fun e w' => ∃ v', e = .returned v' ∧
      w'.ownsRow base 5 1 v' (m + (Pk.num (Pk.zig n)).length) (xs ++ (Pk.num (Pk.zig n)).map bv) ∧ w.grownBy w' v.ownBlock := by
  obtain ⟨i0, hi0, hz0, hz1, hz2⟩ := info_parts3 byte_info
  have HI := Lib.hid hi0
  have HZ0 := Lib.hid hz0
  have HZ1 := Lib.hid hz1
  have HZ2 := Lib.hid hz2
  clear hi0 hz0 hz1 hz2
  have HOWN := Lib.hid hown
  have HZ := Lib.hid (Pk.zig_le h1 h2)
  have HF := Lib.hid (fun w => wfolded_any n w h1 h2)
  clear hown
  generalize Pk.zig n = U at *
  go_enter Try.func29, Try.ntmps29
  go_wp2_with (go_at_call 34; refine (HF.out _).mono ?_; rintro e w' ⟨rfl, rfl⟩)
  have hU := HZ.out
  go_loopg [0, 5] U (fun gk s0 s5 W => ∃ (ys : Pk.Bs), s5 = .int .u64 gk ∧ gk ≤ 9223372036854775808 ∧ Hid (Pk.num U = ys ++ Pk.num gk) ∧ Hid (W.ownsRow base 5 1 s0 (m + ys.length) (xs ++ ys.map bv)) ∧ Hid (w.grownBy W v.ownBlock) ∧ Hid (s0.ownBlock = v.ownBlock ∨ ∀ k, s0.ownBlock = some k → w.heap.size ≤ k))
  case atStart => exact ⟨[], rfl, hU, rfl, by rw [List.length_nil, Nat.add_zero, List.map_nil, List.append_nil]; exact HOWN.out, grown_refl _ _, .inl rfl⟩
  case round =>
    obtain ⟨ys, rfl, hgk, HN, HO, HB, HAT⟩ := hrel
    have hys : ys.length ≤ 20 := by
      have e1 := congrArg List.length HN.out
      have e2 := Pk.num_ten hU
      rw [List.length_append] at e1
      omega
    have hsz := HB.out.size
    by_cases hlt : gk < 128
    · have HN2 : Hid (Pk.num U = ys ++ [UInt8.ofNat gk]) := by rw [← Pk.num_small hlt]; exact HN.out
      have HBV : Hid (Value.int .u8 (gk : Int) = bv (UInt8.ofNat gk)) := by unfold bv; rw [Pk.toNat_ofNat (by omega)]; rfl
      have A2 : Hid (∀ u ∈ [Value.int .u8 gk], u.oneCell' = true) := by intro u hu; simp at hu; subst hu; rfl
      have A3 : Hid ((m + ys.length) + 1 ≤ maxLen) := by unfold Hid maxLen; omega
      have A4 : Hid (((m + ys.length) + 1) * 1 ≤ 140737488355328) := by unfold Hid; omega
      have A5 : Hid (base ≤ (wr.alloc (.cells #[.int .u8 gk] 5)).heap.size) := by unfold Hid; simp; omega
      have A6 : Hid (∀ w1, (wr.alloc (.cells #[.int .u8 gk] 5)).grownBy w1 u0.ownBlock → w.grownBy w1 v.ownBlock) := fun w1 hg => grown_trans (grown_trans HB.out (grown_alloc wr (.cells #[.int .u8 gk] 5) none) (.inr (fun k hk => by cases hk))) hg HAT.out
      clear HN
      go_wp2_with (at_builtin
                   refine wpList_append_own_at (wr.alloc (.cells #[.int .u8 gk] 5)) rfl (.tmp 19) (.tmp 22) 25 rfl base 5 i0 (.int .u8 0) 1 1 Try.underlying25 HI.out HZ0.out HZ1.out HZ2.out rfl Nat.one_pos u0 (m + ys.length) (xs ++ ys.map bv) rfl (HO.out.alloc (.cells #[.int .u8 gk] 5))
                     ⟨wr.heap.size, 0, none⟩ 1 1 [.int .u8 gk] rfl rfl (cell_one_new wr (.int .u8 gk) 5) A2.out A3.out A4.out A5.out ?_
                   intro v1 w1 hown1 hgr1 _ _
                   have HO1 := Lib.hid hown1
                   have HB1 := Lib.hid (A6.out w1 hgr1)
                   clear hown1 hgr1)
      go_ret
      refine ⟨v1, rfl, ?_, HB1.out⟩
      have e1 : (Pk.num U).length = ys.length + 1 := by rw [HN2.out]; simp
      have e2 : xs ++ (Pk.num U).map bv = xs ++ ys.map bv ++ [.int .u8 gk] := by rw [HN2.out, HBV.out]; simp
      rw [e1, e2]
      exact HO1.out
    · have HN2 : Hid (Pk.num U = (ys ++ [UInt8.ofNat (gk % 128 + 128)]) ++ Pk.num (gk / 128)) := by
        show _ = _
        rw [HN.out, Pk.num_big hlt]; simp
      have HBV : Hid (Value.int .u8 ((gk : Int) % 128 + 128) = bv (UInt8.ofNat (gk % 128 + 128))) := by unfold bv; rw [Pk.toNat_ofNat (by omega)]; rfl
      have A2 : Hid (∀ u ∈ [Value.int .u8 ((gk : Int) % 128 + 128)], u.oneCell' = true) := by intro u hu; simp at hu; subst hu; rfl
      have A3 : Hid ((m + ys.length) + 1 ≤ maxLen) := by unfold Hid maxLen; omega
      have A4 : Hid (((m + ys.length) + 1) * 1 ≤ 140737488355328) := by unfold Hid; omega
      have A5 : Hid (base ≤ (wr.alloc (.cells #[.int .u8 ((gk : Int) % 128 + 128)] 5)).heap.size) := by unfold Hid; simp; omega
      have A6 : Hid (∀ w1, (wr.alloc (.cells #[.int .u8 ((gk : Int) % 128 + 128)] 5)).grownBy w1 u0.ownBlock → w.grownBy w1 v.ownBlock) := fun w1 hg => grown_trans (grown_trans HB.out (grown_alloc wr (.cells #[.int .u8 ((gk : Int) % 128 + 128)] 5) none) (.inr (fun k hk => by cases hk))) hg HAT.out
      clear HN
      go_wp2_with (at_builtin
                   refine wpList_append_own_at (wr.alloc (.cells #[.int .u8 ((gk : Int) % 128 + 128)] 5)) rfl (.tmp 10) (.tmp 15) 25 rfl base 5 i0 (.int .u8 0) 1 1 Try.underlying25 HI.out HZ0.out HZ1.out HZ2.out rfl Nat.one_pos u0 (m + ys.length) (xs ++ ys.map bv) rfl (HO.out.alloc (.cells #[.int .u8 ((gk : Int) % 128 + 128)] 5))
                     ⟨wr.heap.size, 0, none⟩ 1 1 [.int .u8 ((gk : Int) % 128 + 128)] rfl rfl (cell_one_new wr (.int .u8 ((gk : Int) % 128 + 128)) 5) A2.out A3.out A4.out A5.out ?_
                   intro v1 w1 hown1 hgr1 _ hat1
                   have HAT1 := Lib.hid hat1
                   have HO1 := Lib.hid hown1
                   have HB1 := Lib.hid (A6.out w1 hgr1)
                   clear hown1 hgr1 hat1)
      go_roundg (gk / 128)
      case measure => omega
      case rel =>
        refine ⟨ys ++ [UInt8.ofNat (gk % 128 + 128)], by first | rfl | go_num, by omega, HN2.out, ?_, HB1.out, ?_⟩
        · show World.ownsRow _ _ _ _ _ _ _
          rw [List.length_append, List.length_singleton, ← Nat.add_assoc, List.map_append, ← List.append_assoc, List.map_singleton, ← HBV.out]
          exact HO1.out
        · show _ ∨ _
          rcases HAT1.out with e | e
          · rw [e]; exact HAT.out
          · refine .inr (fun k hk => ?_)
            rw [e] at hk
            obtain rfl := Option.some.inj hk
            simp
            omega

theorem step_append_str {P : Program} (w : World) {ops : Array Oper} {o : Oper} {a : Act} {K : Act → World → Prop} {Q : Exit → Act → World → Prop} {E : Prop} (hgd : o.guard = none) (sl x : Operand) (t u : TypeId)
    (ho : o.op = .call { callee := .builtin .append, args := #[sl, x], argTypes := #[t, u] })
    (base : Nat) (e : TypeId) (i : TypeInfo) (ht : P.underlying t = some (.slice e)) (hu : P.underlying u = some .string) (hi : P.info? e = some i) (hz : i.zero = some (.int .u8 0))
    (hsize : i.size = 1) (hby : i.bytes = 1)
    (v : Value) (n : Nat) (xs : List Value) (hs : a.eval sl = v) (hown : w.ownsRow base e 1 v n xs) (s : ByteArray) (hx : a.eval x = .string s)
    (h63 : n + s.size ≤ maxLen) (hbytes : n + s.size ≤ 140737488355328) (hbase : base ≤ w.heap.size)
    (h : ∀ v' w', w'.ownsRow base e 1 v' (n + s.size) (xs ++ Lib.strCells s) → w.grownBy w' v.ownBlock → K (a.put o.dst v') w') :
    if Region.wanted o (yielded ops a.tmps) = true then Oper.wp P o a w K Q else E := by
  have hw : Region.wanted o (yielded ops a.tmps) = true := by simp [Region.wanted, hgd]
  rw [if_pos hw]
  obtain ⟨v', w', hr, h2, h3, _⟩ := Lib.run_append_own_string (P := P) w base t u o.type e i ht hu hi hz hsize hby v n xs hown s h63 hbytes hbase
  unfold Oper.wp execOp
  simp only [ho, resolve, invoke, builtin, Sem.run_bind, Sem.run_pure, Result.andThen_ok, List.map_toArray, List.map_cons, List.map_nil, hs, hx, hr]
  exact h v' w' h2 h3

theorem strCells_bs (s : ByteArray) : Lib.strCells s = (bs s).map bv := rfl

set_option maxHeartbeats 2000000 in
set_option maxRecDepth 100000 in
theorem appendValue_any (b : Value) (m : Nat) (xs : List Value) (c : UInt8) (v : Pk.V) (base : Nat) (w : World) (hv : Pk.isVal c v = true)
    (hown : w.ownsRow base 5 1 b m xs) (hbase : base ≤ w.heap.size) (hm : m ≤ 1000000) :
    Calls Try.prog 20 #[b, .int .u8 (c.toNat : Int), .agg #[.int .i64 v.1, .string v.2]] w fun e w' => ∃ v', e = .returned v' ∧
      w'.ownsRow base 5 1 v' (m + (Pk.encV c v).length) (xs ++ (Pk.encV c v).map bv) ∧ Below base w w' := by
  obtain ⟨n, t⟩ := v
  obtain ⟨i0, hi0, hz0, hz1, hz2⟩ := info_parts3 byte_info
  have HI := Lib.hid hi0
  have HZ0 := Lib.hid hz0
  have HZ1 := Lib.hid hz1
  have HZ2 := Lib.hid hz2
  clear hi0 hz0 hz1 hz2
  have HOWN := Lib.hid hown
  simp only
  by_cases hc : c = 110
  · subst hc
    rw [isVal_n] at hv
    simp only [Bool.and_eq_true, decide_eq_true_eq] at hv
    obtain ⟨h0, h1, h2⟩ := hv
    have HE : Hid (Pk.encV 110 (n, t) = Pk.num (Pk.zig n)) := rfl
    have HC := Lib.hid (appendNumber_any b m xs n base (w.alloc (.cells #[.int .i64 n, .string t] 34)) h1 h2 (hown.alloc _) (by simp; omega) (by omega))
    generalize Pk.encV 110 (n, t) = r at *
    clear hown
    go_enter Try.func20, Try.ntmps20
    go_wp2_with (go_at_call 29; refine HC.out.mono ?_; rintro e w1 ⟨v1, rfl, ho1, hg1⟩; have HO1 := Lib.hid ho1; have HG1 := Lib.hid hg1; clear ho1 hg1)
    go_ret
    refine ⟨v1, rfl, by rw [HE.out]; exact HO1.out, ?_⟩
    exact ((Below.refl _ _).alloc hbase _).grown HG1.out (by simp; omega) (fun k hk => (HOWN.out.lt k hk).1)
  · rw [isVal_t c n t hc] at hv
    simp only [Bool.and_eq_true, decide_eq_true_eq] at hv
    obtain ⟨h0, h1⟩ := hv
    subst h0
    have hc' : ((c.toNat : Int) == 110) = false := beq_eq_false_iff_ne.2 (u8_ne hc)
    have HE : Hid (Pk.encV c (0, t) = Pk.num (Pk.zig t.size) ++ bs t) := by show _ = _; unfold Pk.encV; rw [if_neg hc, Pk.zig_nat]; rfl
    have HC := Lib.hid (fun W (h : W.ownsRow base 5 1 b m xs) (hb : base ≤ W.heap.size) => appendNumber_any b m xs (t.size : Int) base W (by omega) (by omega) h hb (by omega))
    clear hc
    generalize Pk.encV c (0, t) = r at *
    clear hown
    have hl := Pk.num_ten (u := Pk.zig t.size) (by rw [Pk.zig_nat]; omega)
    generalize Pk.num (Pk.zig t.size) = y at *
    go_enter Try.func20, Try.ntmps20
    go_wp2
    have HOW := Lib.hid (HOWN.out.alloc (.cells #[.int .i64 0, .string t] 34))
    have hcell : (w.alloc (.cells #[.int .i64 0, .string t] 34)).cell? ⟨w.heap.size, 1, none⟩ = some (.string t) := by simp [go_sem]
    have HB : Hid (Below base w (w.alloc (.cells #[.int .i64 0, .string t] 34))) := (Below.refl _ _).alloc hbase _
    have HG : Hid ((w.alloc (.cells #[.int .i64 0, .string t] 34)).heap[w.heap.size]? = some (.cells #[.int .i64 0, .string t] 34 (0, 0))) := heap_alloc_new w _
    have HBA : Hid (base ≤ (w.alloc (.cells #[.int .i64 0, .string t] 34)).heap.size) := by unfold Hid; simp; omega
    have HGL : Hid (w.heap.size < (w.alloc (.cells #[.int .i64 0, .string t] 34)).heap.size) := by unfold Hid; simp
    have HLT : Hid (∀ k, b.ownBlock = some k → base ≤ k) := fun k hk => (HOWN.out.lt k hk).1
    generalize w.alloc (.cells #[.int .i64 0, .string t] 34) = W at *
    generalize w.heap.size = g at *
    have HCW := Lib.hid (HC.out W.drew HOW.out HBA.out)
    have A1 : Hid (m + y.length + t.size ≤ maxLen) := by unfold Hid maxLen; omega
    have A2 : Hid (m + y.length + t.size ≤ 140737488355328) := by unfold Hid; omega
    have A3 : Hid (∀ w1, W.drew.grownBy w1 b.ownBlock → w1.heap[g]? = some (.cells #[.int .i64 0, .string t] 34 (0, 0)) ∧ Below base w w1 ∧ base ≤ w1.heap.size ∧ w1.cell? ⟨g, 1, none⟩ = some (.string t)) := fun w1 hg => by
      have h0 : w1.heap[g]? = some (.cells #[.int .i64 0, .string t] 34 (0, 0)) := (hg.block g HGL.out (own_ne HOW.out HG.out (by decide))).trans HG.out
      exact ⟨h0, HB.out.trans (grown_below (a := W) ⟨hg.os, hg.tape, hg.output, hg.size, hg.block⟩ HBA.out HLT.out), Nat.le_trans HBA.out hg.size, cell_of_row w1 g 1 _ _ _ h0⟩
    have A4 : Hid (∀ w1 w2 v1 q qs, w1.heap[g]? = some (.cells #[.int .i64 0, .string t] 34 (0, 0)) → w1.ownsRow base 5 1 v1 q qs → w1.grownBy w2 v1.ownBlock → Below base w w1 → base ≤ w1.heap.size → w2.cell? ⟨g, 1, none⟩ = some (.string t) ∧ Below base w w2) := fun w1 w2 v1 q qs hh ho hg hb hba => by
      have hlt : g < w1.heap.size := (Array.getElem?_eq_some_iff.1 hh).1
      have h0 : w2.heap[g]? = some (.cells #[.int .i64 0, .string t] 34 (0, 0)) := (hg.block g hlt (own_ne ho hh (by decide))).trans hh
      exact ⟨cell_of_row w2 g 1 _ _ _ h0, hb.grown hg hba (fun k hk => (ho.lt k hk).1)⟩
    go_region_held3 (fun w' => w'.cell? ⟨g, 1, none⟩ = some (.string t)) (first | go_keep | assumption)
      (first
        | (go_at_call 29
           refine HCW.out.mono ?_
           rintro e w1 ⟨v1, rfl, ho1, hg1⟩
           obtain ⟨hh1, hb1, hs1, hcell1⟩ := A3.out w1 hg1
           have HB1 := Lib.hid hb1
           have HS1 := Lib.hid hs1
           have HH1 := Lib.hid hh1
           have HO1 := Lib.hid ho1
           clear ho1 hg1 hb1 hs1 hh1)
        | (refine step_append_str w1 (by rfl) (.tmp 17) (.tmp 19) 25 9 (by rfl) base 5 i0 Try.underlying25 Try.underlying9 HI.out HZ0.out HZ1.out HZ2.out v1 (m + y.length) (xs ++ y.map bv) (by rfl) HO1.out t (by rfl) A1.out A2.out HS1.out ?_
           intro v2 w2 ho2 hg2
           obtain ⟨hcell2, hb2⟩ := A4.out w1 w2 v1 _ _ HH1.out HO1.out hg2 HB1.out HS1.out
           have HO2 := Lib.hid ho2
           have HB2 := Lib.hid hb2
           clear ho2 hg2 hb2))
    go_wp2
    go_ret
    refine ⟨v2, rfl, ?_, HB2.out⟩
    rw [HE.out, List.length_append, bs_length, ← Nat.add_assoc, List.map_append, ← List.append_assoc]
    exact HO2.out

end Go.Proofs.Ythncabfeieombaa
