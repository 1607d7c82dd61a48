/- The legs of a tour, gone through by a function: what it hands over. -/
import Derived.Test.YtllffjgjmeibnaaAreaRange
namespace Go.Proofs.Ytllffjgjmeibnaa
open Go.RowKit Go.Shelf
set_option linter.unusedVariables false
attribute [local go_sem] Oper.semAt_some

/-- a leg of an area of n nodes -/
abbrev Lx (n : Nat) := { p : Nat × Nat // p.1 < n ∧ p.2 < n }
def encL {n : Nat} (x : Lx n) : Array Value := #[.int .i64 (x.1.1 : Int), .int .i64 (x.1.2 : Int)]
def toP {n : Nat} (x : Lx n) : Int × Int := ((x.1.1 : Int), (x.1.2 : Int))

/-- what a round keeps: all cells but the two sums' own -/
def KpT (db tb : Nat) (W W' : World) : Prop := W.heap.size ≤ W'.heap.size ∧ ∀ (i : Nat) (cs : Array Value) (t : TypeId) (fr : Nat × Nat), i ≠ db → i ≠ tb → W.heap[i]? = some (.cells cs t fr) → W'.heap[i]? = some (.cells cs t fr)
theorem KpT.trans {db tb : Nat} {A B C : World} (h : KpT db tb A B) (k : KpT db tb B C) : KpT db tb A C := ⟨Nat.le_trans h.1 k.1, fun i cs t fr h1 h2 h3 => k.2 i cs t fr h1 h2 (h.2 i cs t fr h1 h2 h3)⟩
theorem KpT.below {db tb : Nat} {A B : World} (h : Below A.heap.size A B) : KpT db tb A B := ⟨h.size, fun i cs t fr _ _ h3 => (h.block i (Array.getElem?_eq_some_iff.1 h3).1).trans h3⟩
theorem KpT.put (db tb : Nat) (W : World) (l : Nat) (o o' : Obj) (h : W.heap[l]? = some o) (hc : o.isCells = false) : KpT db tb W (W.putObj l o') :=
  ⟨by simp, fun i cs t fr _ _ h3 => (World.putObj_heap_other (fun e => by subst e; rw [h] at h3; obtain rfl := Option.some.inj h3; simp [Obj.isCells] at hc)).trans h3⟩

theorem cell_cells {W : World} {p : Addr} {v : Value} (h : W.cell? p = some v) : ∃ cs t fr, W.heap[p.block]? = some (.cells cs t fr) := by
  unfold World.cell? at h
  cases e : W.heap[p.block]? with
  | none => rw [e] at h; simp at h
  | some o =>
    cases o with
    | cells cs t fr => exact ⟨cs, t, fr, rfl⟩
    | _ => rw [e] at h; simp at h
theorem cell_same {W W' : World} {p : Addr} (h : W'.heap[p.block]? = W.heap[p.block]?) : W'.cell? p = W.cell? p := by unfold World.cell?; rw [h]
theorem block_add (ad : Addr) (k : Nat) : (ad.add k).block = ad.block := by unfold Addr.add; split <;> rfl
theorem KpT.cell {db tb : Nat} {W W' : World} {p : Addr} {v : Value} (h : KpT db tb W W') (h1 : p.block ≠ db) (h2 : p.block ≠ tb) (hc : W.cell? p = some v) : W'.cell? p = some v := by
  obtain ⟨cs, t, fr, e⟩ := cell_cells hc
  rw [cell_same ((h.2 _ _ _ _ h1 h2 e).trans e.symm)]
  exact hc
theorem KpT.box {db tb b : Nat} {W W' : World} {cs : Array Value} {t : TypeId} (h : KpT db tb W W') (h1 : b ≠ db) (h2 : b ≠ tb) (hb : Box W b cs t) : Box W' b cs t := h.2 _ _ _ _ h1 h2 hb

/-- numbers that lie there, clear of the two sums -/
def IntsK (db tb : Nat) (w : World) (A : Option Addr) (zs : List Int) : Prop :=
  ∀ (k : Nat) (z : Int), zs[k]? = some z → ∃ ad, A = some ad ∧ ad.block ≠ db ∧ ad.block ≠ tb ∧ w.cell? (ad.add k) = some (.int .i64 z)
theorem IntsK.kp {db tb : Nat} {W W' : World} {A : Option Addr} {zs : List Int} (h : IntsK db tb W A zs) (hk : KpT db tb W W') : IntsK db tb W' A zs := by
  intro k z hz
  obtain ⟨ad, e, h1, h2, hc⟩ := h k z hz
  exact ⟨ad, e, h1, h2, hk.cell (by rw [block_add]; exact h1) (by rw [block_add]; exact h2) hc⟩
theorem IntsAt.clear {w W : World} {A : Option Addr} {zs : List Int} {db tb : Nat} (h : IntsAt w A zs) (hd : w.heap.size ≤ db) (ht : w.heap.size ≤ tb) (hb : Below w.heap.size w W) : IntsK db tb W A zs := by
  intro k z hz
  obtain ⟨ad, e, hc⟩ := h k z hz
  have hl := lt_of_cell hc
  refine ⟨ad, e, ?_, ?_, by rw [hb.cell (p := ad.add k) hl]; exact hc⟩
  · rw [block_add] at hl; omega
  · rw [block_add] at hl; omega
theorem IntsK.ints {db tb : Nat} {W : World} {A : Option Addr} {zs : List Int} (h : IntsK db tb W A zs) : IntsAt W A zs := fun k z hz => by
  obtain ⟨ad, e, _, _, hc⟩ := h k z hz
  exact ⟨ad, e, hc⟩

structure Nodes (db tb b2 : Nat) (A : Option Addr) (m c : Nat) (ls : List Int) (W : World) : Prop where
  box : Box W b2 #[.slice A m c] 25
  n1 : b2 ≠ db
  n2 : b2 ≠ tb
  ints : IntsK db tb W A ls
theorem Nodes.kp {db tb b2 : Nat} {A : Option Addr} {m c : Nat} {ls : List Int} {W W' : World} (h : Nodes db tb b2 A m c ls W) (hk : KpT db tb W W') : Nodes db tb b2 A m c ls W' :=
  ⟨hk.box h.n1 h.n2 h.box, h.n1, h.n2, h.ints.kp hk⟩

set_option maxRecDepth 100000 in
set_option maxHeartbeats 4000000 in
theorem iter_any (db tb b2 n : Nat) (N : Int) (A : Option Addr) (m c : Nat) (ls : List Int) (l : Nat) (J : List (Lx n) → World → Prop) (W : World) (hN : N = (n : Int)) (hn : 1 ≤ n) (hm : ls.length = m) (hm2 : m ≤ 1000) (hin : Ar.insB N ls = true) (hSe : Nodes db tb b2 A m c ls W) (hJ : AbidesFrom W.heap.size J)
    (hY : ∀ pre x W1, J pre W1 → pre.length < m + 1 → YieldAt Fence.wide 0 Try.prog l (encL x) W1 fun e W' => e = .returned (.bool true) ∧ J (pre ++ [x]) W' ∧ KpT db tb W1 W') (h0 : J [] W) :
    CallsIn Fence.wide 0 Try.prog 21 #[.func (.yield l) #[] #[], .pointer (some ⟨b2, 0, none⟩)] W fun e W' => (∃ v, e = .returned v) ∧ ∃ xs : List (Lx n), xs.map toP = Ar.tourX ls ∧ J xs W' := by
  have HSE := Lib.hid hSe
  have HY := Lib.hid hY
  have H0 := Lib.hid h0
  have HM := Lib.hid hm
  have HIN : Hid (∀ x ∈ ls, ∃ t : Nat, x = (t : Int) ∧ t < n) := fun x hx => Ar.has_nat hN ((Ar.ins_iff N ls).1 hin x hx)
  have x0 : W.cell? ⟨b2, 0, none⟩ = some (.slice A m c) := hSe.box.cell 0 _ rfl
  clear hSe hJ hY h0 hm hin hN
  refine callsIn_of_wp Try.func21 rfl trivial ?_ rfl
  simp only [Try.ntmps21, List.size_toArray, List.length_cons, List.length_nil, Nat.reduceAdd, Nat.reduceSub, Array.replicate_succ, Array.replicate_zero, List.push_toArray, List.append_toArray, List.nil_append, List.cons_append]
  gi_wp2
  gi_loopw [3, 8] (fun s3 s8 wr => ∃ (pre : List (Lx n)) (f k : Nat), k ≤ m ∧ f < n ∧ s3 = .int .i64 (f : Int) ∧ s8 = .int .i64 (k : Int) ∧ Hid (pre.map toP = Ar.goes 0 (ls.take k)) ∧ Hid ((f : Int) = Ar.lastOf 0 (ls.take k)) ∧ Hid (pre.length = k) ∧ Hid (Nodes db tb b2 A m c ls wr) ∧ Hid (J pre wr))
    (fun s3 s8 wr => m - (intOf s8).toNat)
  case atStart => exact ⟨[], 0, 0, by omega, by omega, rfl, rfl, rfl, rfl, rfl, HSE.out, H0.out⟩
  case round =>
    clear HSE H0 x0
    obtain ⟨pre, f, k, hk, hf, rfl, rfl, HPR, HLA, HPL, HSE, HJP⟩ := hrel
    by_cases hlt : k < m
    · obtain ⟨x, hx, hmem⟩ := Ar.some_at ls k (by rw [HM.out]; exact hlt)
      obtain ⟨ad, rfl, _, _, hc⟩ := HSE.out.ints k x hx
      obtain ⟨t, rfl, ht⟩ := HIN.out x hmem
      have HTS := Lib.hid (Ar.take_snoc ls k (t : Int) hx)
      have hyy := HY.out pre ⟨(f, t), hf, ht⟩ wr HJP.out (by have := HPL.out; omega)
      have HPR2 : Hid ((pre ++ [(⟨(f, t), hf, ht⟩ : Lx n)]).map toP = Ar.goes 0 (ls.take (k + 1))) := by unfold Hid; rw [HTS.out, Ar.goes_snoc, List.map_append, HPR.out, ← HLA.out]; rfl
      have HLA2 : Hid ((t : Int) = Ar.lastOf 0 (ls.take (k + 1))) := by unfold Hid; rw [HTS.out, Ar.lastOf_snoc]
      have HPL2 : Hid ((pre ++ [(⟨(f, t), hf, ht⟩ : Lx n)]).length = k + 1) := by unfold Hid; rw [List.length_append, HPL.out]; rfl
      obtain ⟨fn, tmps, assign, body, hy, hR⟩ := hyy
      unfold encL at hy
      dsimp only at hy
      have HR := Lib.hid hR
      clear hx hmem HTS hR HJP HPR HLA HPL
      gi_wp2
      refine ⟨rfl, HR.out.mono ?_⟩
      rintro en W3 ⟨rfl, hJ3, hk3⟩
      have HJ3 := Lib.hid hJ3
      have HS3 := Lib.hid (HSE.out.kp hk3)
      clear hJ3 hk3 HSE hy HR
      gi_wp2
      go_roundw
      case rel => exact ⟨pre ++ [(⟨(f, t), hf, ht⟩ : Lx n)], t, k + 1, by omega, ht, rfl, by first | rfl | go_num, HPR2.out, HLA2.out, HPL2.out, HS3.out, HJ3.out⟩
      case measure => simp [intOf]; omega
    · obtain rfl : k = m := by omega
      have hyy := HY.out pre ⟨(f, 0), hf, by omega⟩ wr HJP.out (by have := HPL.out; omega)
      have HPR2 : Hid ((pre ++ [(⟨(f, 0), hf, by omega⟩ : Lx n)]).map toP = Ar.tourX ls) := by
        unfold Hid
        rw [Ar.tourX_eq, List.map_append, HPR.out, List.take_of_length_le (by rw [HM.out]; exact Nat.le_refl _)]
        have := HLA.out
        rw [List.take_of_length_le (by rw [HM.out]; exact Nat.le_refl _)] at this
        rw [← this]
        rfl
      obtain ⟨fn, tmps, assign, body, hy, hR⟩ := hyy
      have hy' : (Instr.yield l #[.int .i64 (f : Int), .int .i64 0]).run Try.prog wr = .ok (.round l fn tmps assign body) wr := hy
      clear hy
      have HR := Lib.hid hR
      clear hR HJP HPR HLA HPL
      gi_wp2
      refine ⟨rfl, HR.out.mono ?_⟩
      rintro en W3 ⟨rfl, hJ3, hk3⟩
      have HJ3 := Lib.hid hJ3
      clear hJ3 hk3 HSE hy' HR
      gi_wp2
      exact ⟨rfl, _, results_none rfl _ _ _, ⟨_, rfl⟩, _, HPR2.out, HJ3.out⟩

set_option maxHeartbeats 400000 in
theorem legsF_any (A : Option Addr) (m c : Nat) (w : World) :
    Calls Try.prog 18 #[.slice A m c] w fun e w' => e = .returned (.func (.func 21) #[] #[.pointer (some ⟨w.heap.size, 0, none⟩)]) ∧ w' = w.alloc (.cells #[.slice A m c] 25) := by
  go_enter Try.func18, Try.ntmps18
  go_wp2
  go_ret
  exact ⟨rfl, rfl⟩
end Go.Proofs.Ytllffjgjmeibnaa
