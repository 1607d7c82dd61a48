/- Contracts: package pack's reader takes bytes and numbers. -/
import Derived.Test.YthncabfeieombaaPackWr
namespace Go.Proofs.Ythncabfeieombaa
open Go.RowKit

/-- the reader at block r: its bytes, and how many are taken -/
def RdAt (w : World) (r : Nat) (A : Option Addr) (n c k : Nat) : Prop := w.heap[r]? = some (.cells #[.slice A n c, .int .i64 (k : Int)] 66 (0, 0))

theorem RdAt.c0 {w : World} {r : Nat} {A : Option Addr} {n c k : Nat} (h : RdAt w r A n c k) : w.cell? ⟨r, 0, none⟩ = some (.slice A n c) := cell_of_row w r 0 _ _ _ h
theorem RdAt.c1 {w : World} {r : Nat} {A : Option Addr} {n c k : Nat} (h : RdAt w r A n c k) : w.cell? ⟨r, 1, none⟩ = some (.int .i64 (k : Int)) := cell_of_row w r 1 _ _ _ h
theorem RdAt.fz {w : World} {r : Nat} {A : Option Addr} {n c k : Nat} (h : RdAt w r A n c k) (j : Nat) : w.frozen? ⟨r, j, none⟩ = false := by
  unfold RdAt at h
  simp [World.frozen?, h]
theorem RdAt.lt {w : World} {r : Nat} {A : Option Addr} {n c k : Nat} (h : RdAt w r A n c k) : r < w.heap.size := (Array.getElem?_eq_some_iff.1 h).1
theorem RdAt.set {w : World} {r : Nat} {A : Option Addr} {n c k : Nat} (h : RdAt w r A n c k) (k' : Nat) : RdAt (w.setCell ⟨r, 1, none⟩ (.int .i64 (k' : Int))) r A n c k' := by
  unfold RdAt at h ⊢
  simp [World.setCell, Array.getElem?_modify, h]

def fault (q : Nat) : List PanicEntry := [{ v := .iface 62 (.agg #[.int .i64 (q : Int)]), recovered := false }]

theorem BytesIn.cut {w : World} {B : Nat} {A : Option Addr} {l : Pk.Bs} (h : BytesIn w B A l) {c : Nat} (k : Nat) (hc : l.length ≤ c) : BytesIn w B (if c = k then A else A.map (·.add k)) (l.drop k) := by
  intro j u hu
  rw [List.getElem?_map, List.getElem?_drop] at hu
  cases e : l[k + j]? with
  | none => rw [e] at hu; simp at hu
  | some b =>
    rw [e] at hu
    have hlt : k + j < l.length := (List.getElem?_eq_some_iff.1 e).1
    obtain ⟨ad, rfl, hb, hcell⟩ := BytesIn.at_ h e
    refine ⟨ad.add k, by rw [if_neg (by omega)]; rfl, by rw [block_add]; exact hb, ?_⟩
    obtain rfl := Option.some.inj hu
    rw [add_add']
    exact hcell

theorem BytesIn.front {w : World} {B : Nat} {A : Option Addr} {l : Pk.Bs} (h : BytesIn w B A l) (k : Nat) : BytesIn w B A (l.take k) := by
  unfold BytesIn at h ⊢
  rw [List.map_take]
  exact h.take k

theorem grown_set (w : World) (r : Nat) (u : Value) (j : Nat) : w.grownBy (w.setCell ⟨r, j, none⟩ u) (some r) :=
  ⟨rfl, rfl, rfl, by simp [World.setCell], fun k _ hne => Below.heap_setCell w ⟨r, j, none⟩ u k (fun e => hne (by rw [e]))⟩

theorem CellsIn.grown {w w' : World} {B r : Nat} {A : Option Addr} {xs : List Value} (h : CellsIn w B A xs) (hg : w.grownBy w' (some r)) (hB : B ≤ r) (hr : r ≤ w.heap.size) : CellsIn w' B A xs :=
  h.keep fun p hp => World.cell?_of_block (hg.block p.block (by omega) (fun e => by have := Option.some.inj e; omega))

def TakePost (w : World) (r B : Nat) (A : Option Addr) (n c at_ k : Nat) (l : Pk.Bs) (e : Ending) (w' : World) : Prop :=
  ∃ A' c', e = .returned (.slice A' k c') ∧ BytesIn w' B A' ((l.drop at_).take k) ∧ RdAt w' r A n c (at_ + k) ∧ w.grownBy w' (some r)

set_option maxHeartbeats 1000000 in
set_option maxRecDepth 100000 in
theorem take_any (r B : Nat) (A : Option Addr) (n c at_ k : Nat) (l : Pk.Bs) (w : World) (hr : RdAt w r A n c at_) (hn : l.length = n) (hnc : n ≤ c) (hc : c ≤ maxLen) (hat : at_ ≤ n) (hk : k ≤ 1000)
    (hb : BytesIn w B A l) (hB : B ≤ r) (hle : at_ + k ≤ n) :
    Calls Try.prog 39 #[.pointer (some ⟨r, 0, none⟩), .int .i64 (k : Int)] w fun e w' => TakePost w r B A n c at_ k l e w' := by
  unfold maxLen at hc
  have h0 := hr.c0
  have h1 := hr.c1
  have hz0 := hr.fz 0
  have hz1 := hr.fz 1
  have HR := Lib.hid hr
  have HBY := Lib.hid hb
  clear hr hb
  have d1 : decide ((n : Int) - (at_ : Int) < (k : Int)) = false := decide_eq_false (by omega)
  go_enter Try.func39, Try.ntmps39
  go_wp2
  go_quiet (fail)
  go_wp2
  have j1 : (0 : Int) ≤ (at_ : Int) := by omega
  have j2 : (at_ : Int) ≤ (at_ : Int) + (k : Int) := by omega
  have j3 : (at_ : Int) + (k : Int) ≤ (c : Int) := by omega
  have HP : Hid (∀ m, RdAt ((w.drewN m).setCell ⟨r, 1, none⟩ (.int .i64 ((at_ : Int) + (k : Int)))) r A n c (at_ + k) ∧ w.grownBy ((w.drewN m).setCell ⟨r, 1, none⟩ (.int .i64 ((at_ : Int) + (k : Int)))) (some r)) := fun m => by
    have hr' : RdAt (w.drewN m) r A n c at_ := HR.out
    have e1 : ((at_ : Int) + (k : Int)) = ((at_ + k : Nat) : Int) := by omega
    rw [e1]
    have hg := grown_set (w.drewN m) r (.int .i64 ((at_ + k : Nat) : Int)) 1
    exact ⟨hr'.set _, ⟨hg.os, hg.tape, hg.output, hg.size, hg.block⟩⟩
  have HQ : Hid (∀ w', w.grownBy w' (some r) → BytesIn w' B (if c = at_ then A else A.map (·.add at_)) ((l.drop at_).take k)) := fun w' hg =>
    (BytesIn.cut (CellsIn.grown HBY.out hg hB (Nat.le_of_lt HR.out.lt)) at_ (by omega)).front k
  go_quiet (fail)
  by_cases hca : c = at_
  · rw [if_pos hca] at HQ
    subst hca
    go_wp2
    go_ret
    unfold TakePost
    refine ⟨A, c - c, ?_, HQ.out _ (HP.out _).2, (HP.out _).1, (HP.out _).2⟩
    show Ending.returned (Value.slice A (c + k - c) (c - c)) = _
    rw [Nat.add_sub_cancel_left]
  · rw [if_neg hca] at HQ
    go_wp2
    go_ret
    unfold TakePost
    exact ⟨_, _, rfl, HQ.out _ (HP.out _).2, (HP.out _).1, (HP.out _).2⟩

set_option maxHeartbeats 1000000 in
set_option maxRecDepth 100000 in
theorem take_short (r : Nat) (A : Option Addr) (n c at_ k : Nat) (w : World) (hr : RdAt w r A n c at_) (hmax : n ≤ maxLen) (hat : at_ ≤ n) (hle : n < at_ + k) :
    Calls Try.prog 39 #[.pointer (some ⟨r, 0, none⟩), .int .i64 (k : Int)] w fun e w' => e = .panicked (fault 3) ∧ w.grownBy w' (some r) := by
  have hc : n ≤ 9223372036854775807 := by unfold maxLen at hmax; omega
  clear hmax
  have h0 := hr.c0
  have h1 := hr.c1
  clear hr
  have d1 : decide ((n : Int) - (at_ : Int) < (k : Int)) = true := decide_eq_true (by omega)
  go_enter Try.func39, Try.ntmps39
  go_wp2
  go_quiet (fail)
  go_wp2
  exact ⟨rfl, rfl, ⟨rfl, rfl, rfl, Nat.le_refl _, fun _ _ _ => rfl⟩⟩

theorem or_add (u x i : Nat) (h : u < 2 ^ i) : u ||| x * 2 ^ i = u + x * 2 ^ i := by
  rw [← Nat.shiftLeft_eq, Nat.or_comm, ← Nat.shiftLeft_add_eq_or_of_lt h, Nat.add_comm]

theorem pow128 (i : Nat) : 128 ^ i = 2 ^ (7 * i) := by rw [Nat.pow_mul]

/-- what a number's u tells of the call -/
def FoldPost (x : Except Nat (Nat × Pk.Bs)) (w : World) (r : Nat) (A : Option Addr) (n c : Nat) (e : Ending) (w' : World) : Prop :=
  match x with
  | .error q => e = .panicked (fault q) ∧ w.grownBy w' (some r)
  | .ok (u, t) => e = .returned (.int .u64 (u : Int)) ∧ RdAt w' r A n c (n - t.length) ∧ w.grownBy w' (some r)

theorem drop_cons {l : Pk.Bs} {k : Nat} {b : UInt8} (h : l[k]? = some b) : l.drop k = b :: l.drop (k + 1) := by
  have hk : k < l.length := (List.getElem?_eq_some_iff.1 h).1
  rw [List.drop_eq_getElem_cons hk]
  rw [List.getElem?_eq_getElem hk] at h
  rw [Option.some.inj h]

theorem wrap_nat (W : Nat) : IntKind.u64.wrap (W : Int) = ((W % 18446744073709551616 : Nat) : Int) := by
  unfold IntKind.wrap
  simp [IntKind.bits, IntKind.signed]

theorem or_form (u x i : Nat) (hu : u < 128 ^ i) (hi : i ≤ 9) : bits BinOp.or IntKind.u64 (u : Int) (IntKind.u64.wrap ((x : Int) % 128 * 2 ^ (7 * i))) = ((u ||| (x % 128 * 2 ^ (7 * i)) % 18446744073709551616 : Nat) : Int) := by
  have e : ((x : Int) % 128 * 2 ^ (7 * i)) = ((x % 128 * 2 ^ (7 * i) : Nat) : Int) := by simp
  have h9 : 128 ^ i ≤ 128 ^ 9 := Nat.pow_le_pow_right (by omega) hi
  have h8 : (128 : Nat) ^ 9 = 9223372036854775808 := by decide
  rw [e, wrap_nat]
  exact u64_or_nat u _ (by omega) (Nat.mod_lt _ (by omega))

theorem or_small (u x i : Nat) (hu : u < 128 ^ i) (hi : i ≤ 8 ∨ (i = 9 ∧ x % 128 ≤ 1)) : u ||| (x % 128 * 2 ^ (7 * i)) % 18446744073709551616 = u + x % 128 * 128 ^ i ∧ (i ≤ 8 → u + x % 128 * 128 ^ i < 128 ^ (i + 1)) := by
  have hp := Pk.pow_pos' i
  have hW : x % 128 * 2 ^ (7 * i) < 18446744073709551616 := by
    rw [← pow128]
    rcases hi with hi | ⟨rfl, hx⟩
    · have h9 : 128 ^ i ≤ 128 ^ 8 := Nat.pow_le_pow_right (by omega) hi
      have h8 : (128 : Nat) ^ 8 = 72057594037927936 := by decide
      have : x % 128 * 128 ^ i ≤ 127 * 128 ^ 8 := Nat.mul_le_mul (by omega) h9
      omega
    · have h8 : (128 : Nat) ^ 9 = 9223372036854775808 := by decide
      have : x % 128 * 128 ^ 9 ≤ 1 * 128 ^ 9 := Nat.mul_le_mul hx (Nat.le_refl _)
      omega
  rw [Nat.mod_eq_of_lt hW, or_add u _ _ (by rw [← pow128]; exact hu), ← pow128]
  refine ⟨rfl, fun _ => ?_⟩
  rw [Nat.pow_succ]
  have : x % 128 * 128 ^ i ≤ 127 * 128 ^ i := Nat.mul_le_mul_right _ (by omega)
  omega

set_option maxHeartbeats 2000000 in
set_option maxRecDepth 100000 in
theorem folded_any (r B : Nat) (A : Option Addr) (n c at_ : Nat) (l : Pk.Bs) (w : World) (hr : RdAt w r A n c at_) (hn : l.length = n) (hnc : n ≤ c) (hc : c ≤ maxLen) (hat : at_ ≤ n)
    (hb : BytesIn w B A l) (hB : B ≤ r) :
    Calls Try.prog 38 #[.pointer (some ⟨r, 0, none⟩)] w fun e w' => FoldPost (Pk.fold 0 0 (l.drop at_)) w r A n c e w' := by
  have HR := Lib.hid hr
  have HBY := Lib.hid hb
  have HN := Lib.hid hn
  have HNC := Lib.hid hnc
  have HC := Lib.hid hc
  have HBR := Lib.hid hB
  have HT : Hid (∀ (W : World) (k : Nat), RdAt W r A n c k → k + 1 ≤ n → w.grownBy W (some r) → Calls Try.prog 39 #[.pointer (some ⟨r, 0, none⟩), .int .i64 1] W fun e w' => TakePost W r B A n c k 1 l e w') := (fun (W : World) (k : Nat) h1 h2 h3 => take_any r B A n c k 1 l W h1 hn hnc hc (by omega) (by omega) (CellsIn.grown hb h3 hB (Nat.le_of_lt hr.lt)) hB h2)
  have HTS : Hid (∀ (W : World) (k : Nat), RdAt W r A n c k → k ≤ n → n < k + 1 → Calls Try.prog 39 #[.pointer (some ⟨r, 0, none⟩), .int .i64 1] W fun e w' => e = .panicked (fault 3) ∧ W.grownBy w' (some r)) := (fun (W : World) (k : Nat) h1 h0 h2 => take_short r A n c k 1 W h1 (Nat.le_trans hnc hc) h0 h2)
  clear hr hb hn hnc hc hB
  generalize hX : Pk.fold 0 0 (l.drop at_) = X
  have HX := Lib.hid hX
  clear hX
  go_enter Try.func38, Try.ntmps38
  go_wp2
  go_loopg [2, 3, 8] 10 (fun gk s2 s3 s8 W => ∃ (i k : Nat), i + gk = 10 ∧ s8 = .int .i64 i ∧ s2 = .int .u64 0 ∧ k ≤ n ∧ Hid (RdAt W r A n c k) ∧ Hid (w.grownBy W (some r)) ∧ ((i = 10 ∧ Hid (X = .error 2)) ∨ (i < 10 ∧ ∃ u : Nat, s3 = .int .u64 u ∧ u < 128 ^ i ∧ Hid (Pk.fold i u (l.drop k) = X))))
  case atStart => exact ⟨0, at_, by omega, rfl, rfl, hat, HR.out, grown_refl _ _, .inr ⟨by omega, 0, rfl, by simp, HX.out⟩⟩
  case round =>
    obtain ⟨i, k, hig, rfl, rfl, hk, HRW, HG, hcase⟩ := hrel
    rcases hcase with ⟨rfl, HE⟩ | ⟨hi, u, rfl, hu, HF⟩
    · go_wp2
      exact ⟨rfl, by rw [HE.out]; exact ⟨rfl, HG.out⟩⟩
    · obtain ⟨gk, rfl⟩ : ∃ j, gk = j + 1 := ⟨gk - 1, by omega⟩
      by_cases hkn : k < n
      · have HTW := Lib.hid (HT.out wr k HRW.out hkn HG.out)
        obtain ⟨b, hb⟩ := some_at l k (by rw [HN.out]; exact hkn)
        rw [drop_cons hb, Pk.fold, if_neg (by omega)] at HF
        have HBK : Hid (((l.drop k).take 1)[0]? = some b) := by unfold Hid; rw [drop_cons hb]; rfl
        clear hb
        have hx := Pk.u8_lt b
        have HDL : Hid (n - (l.drop (k + 1)).length = k + 1) := by unfold Hid; rw [List.length_drop, HN.out]; omega
        have hor := or_form u b.toNat i hu (by omega)
        have HOS := Lib.hid (or_small u b.toNat i hu)
        generalize (u ||| (b.toNat % 128 * 2 ^ (7 * i)) % 18446744073709551616) = U at *
        by_cases hge : 128 ≤ b.toNat
        · have d1 : decide ((128 : Int) ≤ (b.toNat : Int)) = true := decide_eq_true (by omega)
          rw [if_pos hge] at HF
          clear hge
          go_wp2_with (go_at_call 39; refine HTW.out.mono ?_; rintro e w1 ⟨A1, c1, rfl, hb1, hr1, hg1⟩; obtain ⟨ad, rfl, _, hcell⟩ := BytesIn.at_ hb1 HBK.out; have hcell' : w1.cell? ad = some (.int .u8 (b.toNat : Int)) := hcell; have HR1 := Lib.hid hr1; have HG1 := Lib.hid (grown_trans HG.out hg1 (.inl rfl)); clear hb1 hr1 hg1 hcell)
          go_roundg gk
          case measure => omega
          case rel =>
            refine ⟨i + 1, k + 1, by omega, by first | rfl | go_num, rfl, by omega, HR1.out, HG1.out, ?_⟩
            by_cases h9 : i = 9
            · refine .inl ⟨by omega, ?_⟩
              subst h9
              unfold Hid
              rw [← HF.out]
              cases l.drop (k + 1) <;> rfl
            · obtain ⟨hUE, hUl⟩ := HOS.out (.inl (by omega))
              exact .inr ⟨by omega, U, rfl, by rw [hUE]; exact hUl (by omega), by rw [hUE]; exact HF.out⟩
        · have d1 : decide ((128 : Int) ≤ (b.toNat : Int)) = false := decide_eq_false (by omega)
          rw [if_neg hge] at HF
          by_cases hx0 : b.toNat = 0
          · have d2 : ((b.toNat : Int) == 0) = true := by rw [hx0]; rfl
            by_cases hi0 : 0 < i
            · have d3 : decide ((0 : Int) < (i : Int)) = true := decide_eq_true (by omega)
              have d4 : decide ((1 : Int) < (b.toNat : Int)) = false := decide_eq_false (by omega)
              have HXE : Hid (Except.error 2 = X) := by unfold Hid; rw [← HF.out, if_pos (.inl ⟨hx0, hi0⟩)]
              clear hx0 HF hge
              go_wp2_with (go_at_call 39; refine HTW.out.mono ?_; rintro e w1 ⟨A1, c1, rfl, hb1, hr1, hg1⟩; obtain ⟨ad, rfl, _, hcell⟩ := BytesIn.at_ hb1 HBK.out; have hcell' : w1.cell? ad = some (.int .u8 (b.toNat : Int)) := hcell; have HR1 := Lib.hid hr1; have HG1 := Lib.hid (grown_trans HG.out hg1 (.inl rfl)); clear hb1 hr1 hg1 hcell)
              exact ⟨rfl, by rw [← HXE.out]; exact ⟨rfl, HG1.out⟩⟩
            · have d3 : decide ((0 : Int) < (i : Int)) = false := decide_eq_false (by omega)
              have d4 : decide ((1 : Int) < (b.toNat : Int)) = false := decide_eq_false (by omega)
              have HUE := Lib.hid (HOS.out (.inl (by omega))).1
              have HZ : Hid (¬ (b.toNat = 0 ∧ 0 < i) ∧ ¬ (1 < b.toNat ∧ i = 9)) := ⟨by omega, by omega⟩
              clear hx0
              by_cases hbig : 9223372036854775808 < U
              · have HXE : Hid (Except.error 2 = X) := by unfold Hid; rw [← HF.out, if_pos (.inr (.inr (by rw [← HUE.out]; exact hbig)))]
                have d9 : decide ((9223372036854775808 : Int) < (U : Int)) = true := decide_eq_true (by omega)
                clear hbig HF hge
                go_wp2_with (go_at_call 39; refine HTW.out.mono ?_; rintro e w1 ⟨A1, c1, rfl, hb1, hr1, hg1⟩; obtain ⟨ad, rfl, _, hcell⟩ := BytesIn.at_ hb1 HBK.out; have hcell' : w1.cell? ad = some (.int .u8 (b.toNat : Int)) := hcell; have HR1 := Lib.hid hr1; have HG1 := Lib.hid (grown_trans HG.out hg1 (.inl rfl)); clear hb1 hr1 hg1 hcell)
                exact ⟨rfl, by rw [← HXE.out]; exact ⟨rfl, HG1.out⟩⟩
              · have HXO : Hid (Except.ok (u + b.toNat % 128 * 128 ^ i, l.drop (k + 1)) = X) := by
                  unfold Hid
                  rw [← HF.out, if_neg]
                  rintro (h | h | h)
                  · exact HZ.out.1 h
                  · exact HZ.out.2 h
                  · rw [← HUE.out] at h; exact hbig h
                have d9 : decide ((9223372036854775808 : Int) < (U : Int)) = false := decide_eq_false (by omega)
                clear hbig HF hge
                go_wp2_with (go_at_call 39; refine HTW.out.mono ?_; rintro e w1 ⟨A1, c1, rfl, hb1, hr1, hg1⟩; obtain ⟨ad, rfl, _, hcell⟩ := BytesIn.at_ hb1 HBK.out; have hcell' : w1.cell? ad = some (.int .u8 (b.toNat : Int)) := hcell; have HR1 := Lib.hid hr1; have HG1 := Lib.hid (grown_trans HG.out hg1 (.inl rfl)); clear hb1 hr1 hg1 hcell)
                go_ret
                rw [← HXO.out]
                exact ⟨by rw [HUE.out]; rfl, by rw [HDL.out]; exact HR1.out, HG1.out⟩
          · have d2 : ((b.toNat : Int) == 0) = false := beq_eq_false_iff_ne.2 (by omega)
            by_cases hx1 : 1 < b.toNat
            · have d3 : decide ((1 : Int) < (b.toNat : Int)) = true := decide_eq_true (by omega)
              by_cases h9 : i = 9
              · have d4 : ((i : Int) == 9) = true := by rw [h9]; rfl
                have HXE : Hid (Except.error 2 = X) := by unfold Hid; rw [← HF.out, if_pos (.inr (.inl ⟨hx1, h9⟩))]
                clear h9 HF hge hx0
                go_wp2_with (go_at_call 39; refine HTW.out.mono ?_; rintro e w1 ⟨A1, c1, rfl, hb1, hr1, hg1⟩; obtain ⟨ad, rfl, _, hcell⟩ := BytesIn.at_ hb1 HBK.out; have hcell' : w1.cell? ad = some (.int .u8 (b.toNat : Int)) := hcell; have HR1 := Lib.hid hr1; have HG1 := Lib.hid (grown_trans HG.out hg1 (.inl rfl)); clear hb1 hr1 hg1 hcell)
                exact ⟨rfl, by rw [← HXE.out]; exact ⟨rfl, HG1.out⟩⟩
              · have d4 : ((i : Int) == 9) = false := beq_eq_false_iff_ne.2 (by omega)
                have HUE := Lib.hid (HOS.out (.inl (by omega))).1
                have HZ : Hid (¬ (b.toNat = 0 ∧ 0 < i) ∧ ¬ (1 < b.toNat ∧ i = 9)) := ⟨by omega, by omega⟩
                clear hx0
                by_cases hbig : 9223372036854775808 < U
                · have HXE : Hid (Except.error 2 = X) := by unfold Hid; rw [← HF.out, if_pos (.inr (.inr (by rw [← HUE.out]; exact hbig)))]
                  have d9 : decide ((9223372036854775808 : Int) < (U : Int)) = true := decide_eq_true (by omega)
                  clear hbig HF hge
                  go_wp2_with (go_at_call 39; refine HTW.out.mono ?_; rintro e w1 ⟨A1, c1, rfl, hb1, hr1, hg1⟩; obtain ⟨ad, rfl, _, hcell⟩ := BytesIn.at_ hb1 HBK.out; have hcell' : w1.cell? ad = some (.int .u8 (b.toNat : Int)) := hcell; have HR1 := Lib.hid hr1; have HG1 := Lib.hid (grown_trans HG.out hg1 (.inl rfl)); clear hb1 hr1 hg1 hcell)
                  exact ⟨rfl, by rw [← HXE.out]; exact ⟨rfl, HG1.out⟩⟩
                · have HXO : Hid (Except.ok (u + b.toNat % 128 * 128 ^ i, l.drop (k + 1)) = X) := by
                    unfold Hid
                    rw [← HF.out, if_neg]
                    rintro (h | h | h)
                    · exact HZ.out.1 h
                    · exact HZ.out.2 h
                    · rw [← HUE.out] at h; exact hbig h
                  have d9 : decide ((9223372036854775808 : Int) < (U : Int)) = false := decide_eq_false (by omega)
                  clear hbig HF hge
                  go_wp2_with (go_at_call 39; refine HTW.out.mono ?_; rintro e w1 ⟨A1, c1, rfl, hb1, hr1, hg1⟩; obtain ⟨ad, rfl, _, hcell⟩ := BytesIn.at_ hb1 HBK.out; have hcell' : w1.cell? ad = some (.int .u8 (b.toNat : Int)) := hcell; have HR1 := Lib.hid hr1; have HG1 := Lib.hid (grown_trans HG.out hg1 (.inl rfl)); clear hb1 hr1 hg1 hcell)
                  go_ret
                  rw [← HXO.out]
                  exact ⟨by rw [HUE.out]; rfl, by rw [HDL.out]; exact HR1.out, HG1.out⟩
            · have d3 : decide ((1 : Int) < (b.toNat : Int)) = false := decide_eq_false (by omega)
              have HUE := Lib.hid (HOS.out (by omega)).1
              have HZ : Hid (¬ (b.toNat = 0 ∧ 0 < i) ∧ ¬ (1 < b.toNat ∧ i = 9)) := ⟨by omega, by omega⟩
              clear hx0
              by_cases hbig : 9223372036854775808 < U
              · have HXE : Hid (Except.error 2 = X) := by unfold Hid; rw [← HF.out, if_pos (.inr (.inr (by rw [← HUE.out]; exact hbig)))]
                have d9 : decide ((9223372036854775808 : Int) < (U : Int)) = true := decide_eq_true (by omega)
                clear hbig HF hge
                go_wp2_with (go_at_call 39; refine HTW.out.mono ?_; rintro e w1 ⟨A1, c1, rfl, hb1, hr1, hg1⟩; obtain ⟨ad, rfl, _, hcell⟩ := BytesIn.at_ hb1 HBK.out; have hcell' : w1.cell? ad = some (.int .u8 (b.toNat : Int)) := hcell; have HR1 := Lib.hid hr1; have HG1 := Lib.hid (grown_trans HG.out hg1 (.inl rfl)); clear hb1 hr1 hg1 hcell)
                exact ⟨rfl, by rw [← HXE.out]; exact ⟨rfl, HG1.out⟩⟩
              · have HXO : Hid (Except.ok (u + b.toNat % 128 * 128 ^ i, l.drop (k + 1)) = X) := by
                  unfold Hid
                  rw [← HF.out, if_neg]
                  rintro (h | h | h)
                  · exact HZ.out.1 h
                  · exact HZ.out.2 h
                  · rw [← HUE.out] at h; exact hbig h
                have d9 : decide ((9223372036854775808 : Int) < (U : Int)) = false := decide_eq_false (by omega)
                clear hbig HF hge
                go_wp2_with (go_at_call 39; refine HTW.out.mono ?_; rintro e w1 ⟨A1, c1, rfl, hb1, hr1, hg1⟩; obtain ⟨ad, rfl, _, hcell⟩ := BytesIn.at_ hb1 HBK.out; have hcell' : w1.cell? ad = some (.int .u8 (b.toNat : Int)) := hcell; have HR1 := Lib.hid hr1; have HG1 := Lib.hid (grown_trans HG.out hg1 (.inl rfl)); clear hb1 hr1 hg1 hcell)
                go_ret
                rw [← HXO.out]
                exact ⟨by rw [HUE.out]; rfl, by rw [HDL.out]; exact HR1.out, HG1.out⟩
      · have hkn' : k = n := by omega
        have HTW := Lib.hid (HTS.out wr k HRW.out hk (by omega))
        have HXE : Hid (Except.error 3 = X) := by
          unfold Hid
          rw [← HF.out, List.drop_of_length_le (by rw [HN.out]; omega), Pk.fold, if_neg (by omega)]
        clear HF
        go_wp2_with (go_at_call 39; refine HTW.out.mono ?_; rintro e w1 ⟨rfl, hg1⟩; have HG1 := Lib.hid (grown_trans HG.out hg1 (.inl rfl)); clear hg1)
        exact ⟨rfl, by rw [← HXE.out]; exact ⟨rfl, HG1.out⟩⟩

end Go.Proofs.Ythncabfeieombaa
