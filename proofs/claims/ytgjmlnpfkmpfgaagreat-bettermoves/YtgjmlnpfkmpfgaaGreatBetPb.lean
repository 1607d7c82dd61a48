/- Package better's iterators over routes: what they hand over, what stays while they are gone through; the one that puts an order at each place. -/
import Derived.Test.YtgjmlnpfkmpfgaaGreatBetPa
import Derived.Test.YtgjmlnpfkmpfgaaGreatBetIts
import Derived.StillTailTactics
namespace Go.Proofs.YtgjmlnpfkmpfgaaGreat
open Go.RowKit Go.Shelf
set_option linter.unusedVariables false
set_option maxRecDepth 100000
attribute [local go_sem] Oper.semAt_some

/-- it holds, and will, whatever the one that ranges does with its own -/
def Stay (sb : Nat) (W : World) (P : World → Prop) : Prop := ∀ W', KM sb W W' → P W'
theorem Stay.now {sb : Nat} {W : World} {P : World → Prop} (h : Stay sb W P) : P W := h W (KM.refl sb W)
theorem Stay.step {sb : Nat} {W W' : World} {P : World → Prop} (h : Stay sb W P) (hk : KM sb W W') : Stay sb W' P := fun U hU => h U (hk.trans hU)
theorem Stay.and {sb : Nat} {W : World} {P Q : World → Prop} (h : Stay sb W P) (h2 : Stay sb W Q) : Stay sb W fun U => P U ∧ Q U := fun U hU => ⟨h U hU, h2 U hU⟩
theorem Stay.imp {sb : Nat} {W : World} {P Q : World → Prop} (h : Stay sb W P) (hi : ∀ U, P U → Q U) : Stay sb W Q := fun U hU => hi U (h U hU)
theorem stay_box {sb b : Nat} {W : World} {cs : Array Value} {T : TypeId} (h : Box W b cs T) (hn : ¬ Mn sb W b) : Stay sb W fun U => Box U b cs T := fun U hU => hU.keep b _ hn h
/-- a box that is made now -/
theorem stay_new {sb : Nat} {W : World} (hk : MnOk sb W) (cs : Array Value) (T : TypeId) : Stay sb (W.alloc (.cells cs T)) fun U => Box U W.heap.size cs T :=
  stay_box (Box.new W cs T) fun hm => hk.new (Nat.le_refl _) ((Mn.congr ((below_alloc W (.cells cs T)).block sb (hk.lt (.inl rfl)))).1 hm)

/-- routes by value, as they lie -/
structure RtsAt (S : Nat) (W : World) (A : Option Addr) (m : Nat) (l : List Rd) : Prop where
  len : l.length = m
  mx : m ≤ 10
  rows : RowsR W A l
  ra : ∀ r ∈ l, RAt W r ∧ r.sm ≤ S
theorem RtsAt.below {S m : Nat} {W W' : World} {A : Option Addr} {l : List Rd} (h : RtsAt S W A m l) (hb : Below W.heap.size W W') : RtsAt S W' A m l := ⟨h.len, h.mx, h.rows.below hb, fun r hr => ⟨(h.ra r hr).1.below hb, (h.ra r hr).2⟩⟩
/-- what is handed over -/
def RV (x : List Pl.Ro) (v : Value) (W : World) : Prop := ∃ A m c l, v = .slice A m c ∧ RtsAt 30 W A m l ∧ ros l = x
theorem rv_own (x : List Pl.Ro) (v : Value) : Own (fun (_ : Unit) W => RV x v W) := by
  rintro _ W W' row ⟨A, m, c, l, e, h, hx⟩ hg hr
  refine ⟨A, m, c, l, e, ⟨h.len, h.mx, fun k r hk => ?_, fun r hm => ⟨⟨(h.ra r hm).1.sl, (h.ra r hm).1.s2, fun k z hz => ?_⟩, (h.ra r hm).2⟩⟩, hx⟩
  · obtain ⟨ad, e, h1, h2⟩ := h.rows k r hk
    exact ⟨ad, e, cell_kept h1 hg hr, cell_kept h2 hg hr⟩
  · obtain ⟨ad, e, hc⟩ := (h.ra r hm).1.st k z hz
    exact ⟨ad, e, cell_kept hc hg hr⟩

theorem flat_at {α : Type} (f : Nat → List α) {m k j : Nat} (hk : k < m) (hj : j < (f k).length) : ((List.range m).flatMap f)[((List.range k).flatMap f).length + j]? = (f k)[j]? := by
  obtain ⟨d, rfl⟩ : ∃ d, m = k + 1 + d := ⟨m - (k + 1), by omega⟩
  have e : (List.range (k + 1 + d)).flatMap f = ((List.range k).flatMap f ++ f k) ++ ((List.range' (k + 1) d).flatMap f) := by
    rw [List.range_eq_range', ← List.range'_append_1 (s := 0) (m := k + 1) (n := d), List.flatMap_append, ← List.range_eq_range', Bt.flat_range]
    simp
  rw [e, List.getElem?_append_left (by simp; omega), List.getElem?_append_right (by omega)]
  congr 1
  omega
theorem own_kp {B : Nat} {I : Nat → World → Prop} (h : OwnFrom B I) {s : Nat} {W W' : World} (hs : I s W) (hb : Below W.heap.size W W') : I s W' := own_below h hs hb

theorem ints_row {b : Nat} {W : World} {T : TypeId} {v : Value} (h : Box W b #[v] T) : W.cell? ⟨b, 0, none⟩ = some v := h.cell 0 _ rfl

theorem rat_own {W : World} {base : Nat} {A : Option Addr} {n c : Nat} {l : List Int} (h : OwnI W base (.slice A n c) l) (hn : n ≤ 1000) (t : Int) : RAt W ⟨t, A, n, c, l⟩ := ⟨h.len.1, hn, h.len.2.2⟩

set_option maxHeartbeats 8000000 in
theorem puts1_b (sb b1 b2 : Nat) (A : Option Addr) (m c : Nat) (l : List Rd) (id : Int) (w : World) (hs : Stay sb w fun U => Box U b1 #[.slice A m c] 29 ∧ Box U b2 #[.int .i64 id] 3 ∧ RtsAt 14 U A m l) :
    Gives sb Tryz.prog 113 #[.pointer (some ⟨b1, 0, none⟩), .pointer (some ⟨b2, 0, none⟩)] RV (Bt.ins2 (ros l) id m) w := by
  intro l0 J Jx W hW hJ hJx hM hY h0
  have HS := Lib.hid (hs.step hW)
  have HY := Lib.hid hY
  have HM := Lib.hid hM
  have HJ := Lib.hid hJ
  have H0 := Lib.hid h0
  have hm10 := HS.out.now.2.2.mx
  have x0 := ints_row HS.out.now.1
  clear hs hW hJ hJx hM hY h0
  refine callsIn_of_wp Tryz.func113 rfl trivial ?_ rfl
  simp only [Tryz.ntmps113, List.size_toArray, List.length_cons, List.length_nil, Nat.reduceAdd, Nat.reduceSub, Array.replicate_succ, Array.replicate_zero, List.push_toArray, List.append_toArray, List.nil_append, List.cons_append]
  gi_wp2
  gi_loopw [10] (fun s10 U => ∃ (k : Nat), k ≤ m ∧ s10 = .int .i64 (k : Int) ∧ Hid (J (Bt.ins2 (ros l) id k).length U) ∧ Hid (KM sb W U)) (fun s10 U => m - (intOf s10).toNat)
  case atStart => exact ⟨0, by omega, rfl, H0.out, KM.refl _ _⟩
  case round =>
    obtain ⟨k, hk, rfl, HJk, HK⟩ := hrel
    clear H0 x0
    by_cases hlt : k < m
    · obtain ⟨r, hr⟩ := mlist_at l k (by rw [HS.out.now.2.2.len]; exact hlt)
      have hf := (HS.out.step HK.out).now
      obtain ⟨ad, rfl, c0, c1⟩ := hf.2.2.rows k r hr
      obtain ⟨hra, hsm⟩ := hf.2.2.ra r (List.mem_of_getElem? hr)
      have i2 : (k : Int) < (m : Int) := by omega
      have wr1 : IntKind.i64.wrap ((r.sm : Int) + 1) = (r.sm : Int) + 1 := IntWalk.i64_in _ (by omega)
      have HKA : Hid (MnOk sb wr) := HM.out _ _ HJk.out
      have HR := Lib.hid hr
      have HX5 : Hid (Stay sb (wr.alloc (.cells #[.int .i64 r.tr, .slice r.sA r.sm r.sc] 49)) fun U => Box U wr.heap.size #[.int .i64 r.tr, .slice r.sA r.sm r.sc] 49) := stay_new HKA.out _ _
      have y1 := HX5.out.now.cell 1 _ rfl
      have HK5 : Hid (KM sb W (wr.alloc (.cells #[.int .i64 r.tr, .slice r.sA r.sm r.sc] 49))) := HK.out.trans (KM.below HKA.out (below_alloc _ _))
      have HJ5 : Hid (J (Bt.ins2 (ros l) id k).length (wr.alloc (.cells #[.int .i64 r.tr, .slice r.sA r.sm r.sc] 49))) := own_below HJ.out HJk.out (below_alloc _ _)
      have hst : Bt.stAt (ros l) k = r.st := Bt.stAt_at (ros_at hr)
      have HAT : Hid (∀ j, j < r.sm + 1 → (Bt.ins2 (ros l) id m)[(Bt.ins2 (ros l) id k).length + j]? = some (Bt.setSt (ros l) k (Bt.put r.st j id))) := fun j hj => by
        have := flat_at (fun i => Bt.ins1 (ros l) id i ((Bt.stAt (ros l) i).length + 1)) hlt (j := j) (by rw [Bt.ins1_len, hst, hra.sl]; exact hj)
        unfold Bt.ins2
        rw [this, hst, hra.sl]
        unfold Bt.ins1
        rw [List.getElem?_map, List.getElem?_range (by omega), hst]; rfl
      have HLN : Hid ((Bt.ins2 (ros l) id (k + 1)).length = (Bt.ins2 (ros l) id k).length + (r.sm + 1)) := by
        unfold Hid Bt.ins2
        rw [Bt.flat_range, List.length_append, Bt.ins1_len, hst, hra.sl]
      clear hf hra hr hst
      gi_wp2
      clear c0 c1 y1
      generalize hV : wr.alloc (.cells #[.int .i64 r.tr, .slice r.sA r.sm r.sc] 49) = V at *
      clear hV
      generalize hb5 : wr.heap.size = b5 at *
      clear hb5 HJk HK HKA
      gi_loopw [19] (fun s19 U => ∃ (j : Nat), j ≤ r.sm + 1 ∧ s19 = .int .i64 (j : Int) ∧ Hid (J ((Bt.ins2 (ros l) id k).length + j) U) ∧ Hid (KM sb V U)) (fun s19 U => r.sm + 1 - (intOf s19).toNat)
      case atStart => exact ⟨0, by omega, rfl, HJ5.out, KM.refl _ _⟩
      case round =>
        obtain ⟨j, hj, rfl, HJj, HKV⟩ := hrel
        by_cases hjl : j < r.sm + 1
        · have d1 : decide ((j : Int) < (r.sm : Int) + 1) = true := decide_eq_true (by omega)
          have hf := (HS.out.step (HK5.out.trans HKV.out)).now
          have HB2 := Lib.hid hf.2.1
          have HB5 := Lib.hid (HX5.out.step HKV.out).now
          have HRA : Hid (RAt wr r) := (hf.2.2.ra r (List.mem_of_getElem? HR.out)).1
          have z1 := ints_row hf.2.1
          have y1 := HB5.out.cell 1 _ rfl
          have HSY : Hid (∀ U, Below wr.heap.size wr U → U.cell? ⟨b5, 1, none⟩ = some (.slice r.sA r.sm r.sc) ∧ U.cell? ⟨b2, 0, none⟩ = some (.int .i64 id) ∧ Below wr.heap.size wr U) := fun U hU =>
            ⟨(HB5.out.below hU).cell 1 _ rfl, ints_row (HB2.out.below hU), hU⟩
          have HCL : Hid (∀ U, Below wr.heap.size wr U → Calls Tryz.prog 40 #[.slice r.sA r.sm r.sc] U fun e w' => ∃ A' c', e = .returned (.slice A' r.sm c') ∧ Hid (OwnI w' U.heap.size (.slice A' r.sm c') r.st ∧ Below U.heap.size U w' ∧ Below wr.heap.size wr w')) := fun U hU =>
            (clone_i r.sA r.sm r.sc r.st U HRA.out.sl (by omega) (HRA.out.st.below hU)).mono fun e w' hp => by
              obtain ⟨A', c', e1, h1⟩ := hp
              exact ⟨A', c', e1, h1.out.1, h1.out.2, below_next hU h1.out.2⟩
          have HIN : Hid (∀ (U : World) (A' : Option Addr) (c' vb base : Nat), wr.heap.size ≤ base → base ≤ U.heap.size → Below wr.heap.size wr U → OwnI U base (.slice A' r.sm c') r.st → Box U vb #[.int .i64 id] 3 → (∀ ad, A' = some ad → ad.block ≠ vb) → Calls Tryz.prog 114 #[.slice A' r.sm c', .int .i64 (j : Int), .slice (some ⟨vb, 0, none⟩) 1 1] U fun e w' => ∃ A2 c2, e = .returned (.slice A2 (r.sm + 1) c2) ∧ Hid (OwnI w' wr.heap.size (.slice A2 (r.sm + 1) c2) (Bt.put r.st j id) ∧ Below wr.heap.size wr w')) := fun U A' c' vb base h1 h2 hU ho hb hn =>
            (insert_b A' r.sm c' r.st j id vb 1 U base HRA.out.sl (by omega) (by omega) ho h2 hb hn).mono fun e w' hp => by
              obtain ⟨A2, c2, e1, h1'⟩ := hp
              exact ⟨A2, c2, e1, h1'.out.1.mono h1, hU.trans (h1'.out.2.mono h1)⟩
          have HB0 : Hid (Below wr.heap.size wr wr.drew) := ⟨rfl, rfl, rfl, Nat.le_refl _, fun _ _ => rfl⟩
          have HBA : Hid (Below wr.heap.size wr (wr.alloc (.cells #[.int .i64 id] 3)).drew) := (below_alloc wr (.cells #[.int .i64 id] 3)).drew
          clear hf
          gi_wp2
          refine wpIn_wide.2 ?_
          go_cut [7] (fun s7 Wc => ∃ (A2 : Option Addr) (c2 : Nat) (V2 : World), V2 = Wc ∧ s7 = .slice A2 (r.sm + 1) c2 ∧ Hid (OwnI V2 wr.heap.size (.slice A2 (r.sm + 1) c2) (Bt.put r.st j id) ∧ Below wr.heap.size wr V2))
          case first => as_aux_lemma =>
            go_region_held3 (fun U : World => U.cell? ⟨b5, 1, none⟩ = some (.slice r.sA r.sm r.sc) ∧ U.cell? ⟨b2, 0, none⟩ = some (.int .i64 id) ∧ Below wr.heap.size wr U) (first | exact HSY.out _ HB0.out | exact HSY.out _ HBA.out | exact HSY.out _ hb2 | exact HSY.out _ (below_next hb2 (below_alloc _ _)) | exact HSY.out _ HF.out.2 | assumption) (first
              | (go_at_call 40; with_reducible refine (HCL.out wr.drew HB0.out).mono ?_; rintro e w2 ⟨A1, c1, rfl, h2⟩
                 have hb2 := h2.out.2.2
                 have HI1 := Lib.hid (HIN.out (w2.alloc (.cells #[.int .i64 id] 3)) A1 c1 w2.heap.size wr.heap.size (Nat.le_refl _) (by have := hb2.size; simp; omega) (below_next hb2 (below_alloc _ _)) (h2.out.1.below (below_alloc _ _)) (Box.new _ _ _) (fun ad e => by have := (h2.out.1.lt ad.block (by rw [e]; rfl)).2; omega)))
              | (go_at_call 40; with_reducible refine (HCL.out _ HBA.out).mono ?_; rintro e w2 ⟨A1, c1, rfl, h2⟩
                 have hb2 := h2.out.2.2
                 have HI1 := Lib.hid (HIN.out w2 A1 c1 wr.heap.size (wr.alloc (.cells #[.int .i64 id] 3)).drew.heap.size HBA.out.size h2.out.2.1.size hb2 h2.out.1 ((show Box (wr.alloc (.cells #[.int .i64 id] 3)).drew wr.heap.size _ _ from Box.new wr _ _).below h2.out.2.1) (fun ad e => by have h3 : (wr.alloc (.cells #[.int .i64 id] 3)).heap.size ≤ ad.block := (h2.out.1.lt ad.block (by rw [e]; rfl)).1; simp at h3; omega)))
              | (go_at_call 114; with_reducible refine HI1.out.mono ?_; rintro e w3 ⟨A2, c2, rfl, HF⟩))
            all_goals
              go_wp2
              go_meet
              case rel => exact ⟨A2, c2, _, rfl, rfl, HF.out⟩
          case rest =>
            obtain ⟨A2, c2, V2, rfl, rfl, HF⟩ := hcut
            have HKA : Hid (MnOk sb wr) := HM.out _ _ HJj.out
            have HK2 : Hid (KM sb V V2) := HKV.out.trans (KM.below HKA.out HF.out.2)
            have HJ2 : Hid (J ((Bt.ins2 (ros l) id k).length + j) V2) := own_below HJ.out HJj.out HF.out.2
            have HS2 := Lib.hid (HS.out.step (HK5.out.trans HK2.out)).now
            have q0 := ints_row HS2.out.1
            have HRA2 : Hid (RAt V2 ⟨r.tr, A2, r.sm + 1, c2, Bt.put r.st j id⟩) := rat_own HF.out.1 (by omega) r.tr
            have HCH := Lib.hid ((changed_b (some ad) m c k l r A2 (r.sm + 1) c2 (Bt.put r.st j id) V2 HS2.out.2.2.len (by omega) HS2.out.2.2.rows HR.out).mono (R' := fun e w' => ∃ A' c', e = .returned (.slice A' m c') ∧ Hid (KM sb V2 w') ∧ Hid (YieldAt Fence.wide 0 Tryz.prog l0 #[.slice A' m c'] w' fun e W' => (e = .returned (.bool true) ∧ J ((Bt.ins2 (ros l) id k).length + j + 1) W' ∧ KM sb w' W') ∨ (e = .returned (.bool false) ∧ Jx W' ∧ KeepsFrom W.heap.size w' W'))) fun e w' hp => by
              obtain ⟨A', c', e1, h1⟩ := hp
              have hb := h1.out.2
              have hk := HM.out _ _ HJ2.out
              have hl : (l.set k ⟨r.tr, A2, r.sm + 1, c2, Bt.put r.st j id⟩).length = m := by rw [List.length_set]; exact HS2.out.2.2.len
              have hrt : RtsAt 30 w' A' m (l.set k ⟨r.tr, A2, r.sm + 1, c2, Bt.put r.st j id⟩) := ⟨hl, hm10, h1.out.1.len.2.2.1, fun s hs => by
                rcases List.mem_or_eq_of_mem_set hs with h | rfl
                · have := HS2.out.2.2.ra s h
                  exact ⟨this.1.below hb, by omega⟩
                · exact ⟨HRA2.out.below hb, by show r.sm + 1 ≤ 30; omega⟩⟩
              have hy := HY.out ((Bt.ins2 (ros l) id k).length + j) _ (.slice A' m c') w' (HAT.out j hjl) (own_below HJ.out HJ2.out hb) ((HK5.out.trans HK2.out).trans (KM.below hk hb)) ⟨A', m, c', _, rfl, hrt, ros_set HR.out _ _ _ _⟩
              exact ⟨A', c', e1, KM.below hk hb, hy⟩)
            clear HF HJj HKA HRA2 HJ2 HIN HCL HSY HB0 HBA HB2 HB5 HRA z1 y1
            gi_wp2
            refine ⟨trivial, rfl, (callsIn_wide.2 HCH.out).mono ?_⟩
            rintro en w3 ⟨A3, c3, rfl, HK3, HY3⟩
            obtain ⟨fn, tmps, assign, body, hy, hR⟩ := HY3.out
            have HR3 := Lib.hid hR
            clear hR HCH q0 HY3
            gi_wp2
            refine ⟨rfl, HR3.out.mono ?_⟩
            rintro en w4 (⟨rfl, hJ4, hk4⟩ | ⟨rfl, hJx, hkf⟩)
            · have HJ4 := Lib.hid hJ4
              have HK4 := Lib.hid (HK2.out.trans (HK3.out.trans hk4))
              clear hJ4 hk4 HR3 hy HK2 HK3
              gi_wp2
              go_roundw
              case rel => exact ⟨j + 1, by omega, by first | rfl | go_num, HJ4.out, HK4.out⟩
              case measure => simp [intOf]; omega
            · have HJX := Lib.hid hJx
              clear hJx hkf HR3 hy
              gi_wp2
              refine bodyPost_ret (results_none rfl _ _ _) rfl ?_
              exact ⟨⟨_, rfl⟩, .inr HJX.out⟩
        · obtain rfl : j = r.sm + 1 := by omega
          have d1 : decide (((r.sm + 1 : Nat) : Int) < (r.sm : Int) + 1) = false := decide_eq_false (by omega)
          gi_wp2
          go_roundw
          case measure => simp [intOf]; omega
          case rel => exact ⟨k + 1, by omega, by first | rfl | go_num, by rw [HLN.out]; exact HJj.out, HK5.out.trans HKV.out⟩
    · obtain rfl : k = m := by omega
      gi_wp2
      go_end0
      exact ⟨⟨_, rfl⟩, .inl ⟨by have := HJk.out; exact this, HK.out⟩⟩
end Go.Proofs.YtgjmlnpfkmpfgaaGreat
