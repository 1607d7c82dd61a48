/- Contracts of package area: Tour. -/
import Derived.Test.YtllffjgjmeibnaaAreaT1
namespace Go.Proofs.Ytllffjgjmeibnaa
open Go.RowKit Go.Shelf
set_option linter.unusedVariables false
attribute [local go_sem] Oper.semAt_some

theorem below_grown {w W W' : World} {row : Option Nat} (h : Below w.heap.size w W) (hg : W.grownBy W' row) (hr : ∀ r, row = some r → w.heap.size ≤ r) : Below w.heap.size w W' :=
  ⟨hg.os.trans h.os, hg.tape.trans h.tape, hg.output.trans h.output, Nat.le_trans h.size hg.size, fun k hk => (hg.block k (Nat.lt_of_lt_of_le hk h.size) (fun e => by have := hr k e.symm; omega)).trans (h.block k hk)⟩
theorem box_grown {W W' : World} {row : Option Nat} (hg : W.grownBy W' row) (hr : ∀ r, row = some r → ∃ o : Obj, W.heap[r]? = some o ∧ o.isCells = false) {i : Nat} {cs : Array Value} {t : TypeId} (h : Box W i cs t) : Box W' i cs t :=
  (hg.block i h.lt (fun e => by
    obtain ⟨o, ho, hc⟩ := hr i e.symm
    rw [show W.heap[i]? = some (.cells cs t (0, 0)) from h] at ho
    obtain rfl := Option.some.inj ho
    simp [Obj.isCells] at hc)).trans h

theorem box_set {w : World} {b : Nat} {v : Value} {T : TypeId} (h : Box w b #[v] T) (u : Value) : Box (w.setCell ⟨b, 0, none⟩ u) b #[u] T := by
  have := setRow_heap w b _ #[u] _ _ h
  unfold Box
  rw [setCell_eq_setRow w b 0 _ _ _ u h]
  exact this
theorem box_other {w : World} {b k : Nat} {cs : Array Value} {T : TypeId} (h : Box w b cs T) (hne : b ≠ k) (u : Value) : Box (w.setCell ⟨k, 0, none⟩ u) b cs T := (Below.heap_setCell w ⟨k, 0, none⟩ u b (fun e => hne e)).trans h
theorem kpT_set (db tb k : Nat) (W : World) (u : Value) (hk : k = db ∨ k = tb) : KpT db tb W (W.setCell ⟨k, 0, none⟩ u) :=
  ⟨by simp [World.setCell], fun i cs t fr h1 h2 h3 => (Below.heap_setCell W ⟨k, 0, none⟩ u i (by rintro rfl; rcases hk with e | e; exact h1 e; exact h2 e)).trans h3⟩
theorem others_below {W W' : World} (h : Below W.heap.size W W') : KeepsOthers W W' := ⟨h.size, fun k o hk _ => (h.block k (Array.getElem?_eq_some_iff.1 hk).1).trans hk⟩
theorem others_drew (W : World) : KeepsOthers W W.drew := ⟨Nat.le_refl _, fun _ _ h _ => h⟩
theorem kpT_drew (db tb : Nat) (W : World) : KpT db tb W W.drew := ⟨Nat.le_refl _, fun _ _ _ _ _ _ h => h⟩

/-- between two legs -/
structure TourI (w : World) (b db tb : Nat) (N : Int) (dA : Option Addr) (dm dc : Nat) (D : List Int) (tA : Option Addr) (tm tc : Nat) (T : List Int) {n : Nat} (pre : List (Lx n)) (W : World) : Prop where
  box : Box W b (boxA N dA dm dc tA tm tc) 24
  d : Box W db #[.int .i64 (Ar.sumX N D (pre.map toP))] 2
  t : Box W tb #[.int .i64 (Ar.sumX N T (pre.map toP))] 2
  bel : Below w.heap.size w W
theorem tourI_own {w : World} {B b db tb : Nat} {N : Int} {dA tA : Option Addr} {dm dc tm tc : Nat} {D T : List Int} {n : Nat} (hB : w.heap.size ≤ B) : OwnFrom B (TourI w b db tb N dA dm dc D tA tm tc T (n := n)) := by
  rintro pre W W' row ⟨h1, h2, h3, h4⟩ hg hr
  have hr' : ∀ r, row = some r → ∃ o : Obj, W.heap[r]? = some o ∧ o.isCells = false := fun r e => (hr r e).2
  exact ⟨box_grown hg hr' h1, box_grown hg hr' h2, box_grown hg hr' h3, below_grown h4 hg (fun r e => Nat.le_trans hB (hr r e).1)⟩
def TourS {n : Nat} (ls : List Int) (xs : List (Lx n)) (_ : World) : Prop := xs.map toP = Ar.tourX ls

theorem ins_pre {N : Int} {n : Nat} (hN : N = (n : Int)) (pre : List (Lx n)) : Ar.InsX N (pre.map toP) := by
  intro p hp
  obtain ⟨x, _, rfl⟩ := List.mem_map.1 hp
  have := x.2
  exact ⟨(Ar.has_iff _ _).2 (by unfold toP; simp only; omega), (Ar.has_iff _ _).2 (by unfold toP; simp only; omega)⟩

def updT {n : Nat} (x : Lx n) (T : Array Value) : Array Value := (((T.setIfInBounds 24 (.int .i64 (x.1.1 : Int))).setIfInBounds 25 (.int .i64 (x.1.2 : Int))).setIfInBounds 10 (.int .i64 (x.1.1 : Int))).setIfInBounds 11 (.int .i64 (x.1.2 : Int))

set_option maxRecDepth 100000 in
set_option maxHeartbeats 4000000 in
theorem tour_in (N : Int) (dA : Option Addr) (dm dc : Nat) (D : List Int) (tA : Option Addr) (tm tc : Nat) (T : List Int) (n : Nat) (A : Option Addr) (m c : Nat) (ls : List Int) (w : World) (h : AreaAt w dA dm D tA tm T) (hm : ls.length = m) (hm2 : m ≤ 100) (hl : IntsAt w A ls)
    (ho : Ar.Ok N D T n) (h0 : Ar.toldE N D T ls = 0) (hin : Ar.insB N ls = true) :
    Calls Try.prog 9 #[.agg #[.int .i64 N, .slice dA dm dc, .slice tA tm tc], .slice A m c] w fun e w' => e = .returned (.tuple #[.int .i64 (Ar.sumX N D (Ar.tourX ls)), .int .i64 (Ar.sumX N T (Ar.tourX ls)), .int .i64 0]) ∧ Below w.heap.size w w' := by
  have HB0 : Hid (Below w.heap.size w (w.alloc (.cells #[.int .i64 N, .slice dA dm dc, .slice tA tm tc] 24))) := below_alloc _ _
  have HX := Lib.hid (Boxed.new (N := N) (dc := dc) (tc := tc) h)
  have HL := Lib.hid hl
  have HRW := Lib.hid h
  have HM := Lib.hid hm
  have HT := Lib.hid (told_b (N := N) (dc := dc) (tc := tc) A m c ls _ 0 h0 HX.out.rows hm (by omega) (hl.below HB0.out))
  have HO := Lib.hid ho
  have HIN := Lib.hid hin
  have d100 : decide ((100 : Int) < (m : Int)) = false := decide_eq_false (by omega)
  have HLF := Lib.hid (fun W => legsF_any A m c W)
  clear h hl hm h0 hin ho
  refine (callsIn_wide (n := 0)).1 ?_
  refine callsIn_of_wp_marks Try.func9 rfl trivial ?_ rfl
  simp only [Try.ntmps9, List.size_toArray, List.length_cons, List.length_nil, Nat.reduceAdd, Nat.reduceSub, Array.replicate_succ, Array.replicate_zero, List.push_toArray, List.append_toArray, List.nil_append, List.cons_append]
  refine wpIn_wide.2 ?_
  go_wp2_with fail
  generalize w.alloc (.cells #[.int .i64 N, .slice dA dm dc, .slice tA tm tc] 24) = W at *
  with_reducible refine HT.out.mono ?_
  rintro e w1 ⟨rfl, hb1⟩
  have HX1 := Lib.hid (HX.out.below hb1.out)
  have HB1 := Lib.hid (below_next HB0.out hb1.out)
  clear HT hb1 HX HB0
  go_wp2_with fail
  with_reducible refine (HLF.out _).mono ?_
  rintro e w2 ⟨rfl, rfl⟩
  clear HLF
  go_wp2_with fail
  have hw7 : (((w1.alloc (.cells #[.int .i64 0] 2)).alloc (.cells #[.int .i64 0] 2)).alloc (.cells #[.slice A m c] 25)).heap.size = w1.heap.size + 3 := by simp
  have HI0 : Hid (TourI w w.heap.size w1.heap.size (w1.heap.size + 1) N dA dm dc D tA tm tc T ([] : List (Lx n)) (((w1.alloc (.cells #[.int .i64 0] 2)).alloc (.cells #[.int .i64 0] 2)).alloc (.cells #[.slice A m c] 25)) ∧
      Box (((w1.alloc (.cells #[.int .i64 0] 2)).alloc (.cells #[.int .i64 0] 2)).alloc (.cells #[.slice A m c] 25)) (w1.heap.size + 2) #[.slice A m c] 25) := by
    have q1 := Box.new w1 #[.int .i64 0] 2
    have q2 := Box.new (w1.alloc (.cells #[.int .i64 0] 2)) #[.int .i64 0] 2
    have q3 := Box.new ((w1.alloc (.cells #[.int .i64 0] 2)).alloc (.cells #[.int .i64 0] 2)) #[.slice A m c] 25
    rw [show (w1.alloc (.cells #[.int .i64 0] 2)).heap.size = w1.heap.size + 1 by simp] at q2
    rw [show ((w1.alloc (.cells #[.int .i64 0] 2)).alloc (.cells #[.int .i64 0] 2)).heap.size = w1.heap.size + 2 by simp] at q3
    exact ⟨⟨((HX1.out.box.below (below_alloc _ _)).below (below_alloc _ _)).below (below_alloc _ _), (q1.below (below_alloc _ _)).below (below_alloc _ _), q2.below (below_alloc _ _), below_next (below_next (below_next HB1.out (below_alloc _ _)) (below_alloc _ _)) (below_alloc _ _)⟩, q3⟩
  have hw1 : w.heap.size < w1.heap.size := HX1.out.box.lt
  have HSZ := Lib.hid hw7
  clear hw7 HX1 HB1
  generalize ((w1.alloc (.cells #[.int .i64 0] 2)).alloc (.cells #[.int .i64 0] 2)).alloc (.cells #[.slice A m c] 25) = w7 at *
  refine range_law (gf := 21) (lv := #[.pointer (some ⟨w1.heap.size + 2, 0, none⟩)]) rfl (enters_of Try.func21 (by kernel_rfl) rfl) (encL (n := n)) (fun _ => rfl) (KpT w1.heap.size (w1.heap.size + 1)) KpT.trans (KpT.put w1.heap.size (w1.heap.size + 1))
    (TourI w w.heap.size w1.heap.size (w1.heap.size + 1) N dA dm dc D tA tm tc T) (TourS ls) (tourI_own (by rw [HSZ.out]; omega)) (fun _ _ _ _ h _ _ => h)
    HI0.out.1
    (fun l J W1 hb hJ hY h0 => iter_any w1.heap.size (w1.heap.size + 1) (w1.heap.size + 2) n N A m c ls l J W1 HO.out.cast HO.out.n1 HM.out (by omega) HIN.out ⟨HI0.out.2.below hb, by omega, by omega, HL.out.clear (by omega) (by omega) (below_next HI0.out.1.bel hb)⟩ hJ hY h0) updT ?assign ?body ?done
  case assign =>
    intro l x W' K hK
    unfold updT at hK
    unfold encL
    gi_wp2
    simpa using hK
  case body =>
    rintro l pre ⟨⟨f, t⟩, hf, ht⟩ W' hI hN
    obtain ⟨p, ad, at', hp, hpd, hpt, rfl, rfl, hc1, hc2⟩ := at_ok HO.out (HRW.out.below hI.bel) hf ht
    have hbx : Boxed W' w.heap.size N (some ad) dm dc D (some at') tm tc T := ⟨hI.box, HRW.out.below hI.bel⟩
    have x0 := hbx.c0
    have x1 := hbx.c1
    have x2 := hbx.c2
    have HP : Hid (∀ W, Calls Try.prog 16 #[.agg #[.int .i64 N, .slice (some ad) dm dc, .slice (some at') tm tc], .int .i64 (f : Int), .int .i64 (t : Int)] W fun e w' => e = .returned (.int .i64 (p : Int)) ∧ Hid (Below W.heap.size W w')) := fun W => by
      rw [hp]; exact place_any N _ _ n f t W HO.out.cast HO.out.n16 hf ht
    have hb := Ar.sumX_bd HO.out (pre.map toP) (ins_pre HO.out.cast pre)
    have hlen : (pre.map toP).length ≤ 100 := by rw [List.length_map]; omega
    have had := HO.out.at_d (f := (f : Int)) (t := (t : Int)) ((Ar.has_iff _ _).2 (by have := HO.out.cast; omega)) ((Ar.has_iff _ _).2 (by have := HO.out.cast; omega))
    have hat := HO.out.at_t (f := (f : Int)) (t := (t : Int)) ((Ar.has_iff _ _).2 (by have := HO.out.cast; omega)) ((Ar.has_iff _ _).2 (by have := HO.out.cast; omega))
    have HI := Lib.hid hI
    have i0 : (0 : Int) ≤ (p : Int) := by omega
    have i1 : (p : Int) < (dm : Int) := by omega
    have i2 : (p : Int) < (tm : Int) := by omega
    obtain ⟨⟨hb1, hb2⟩, hb3, hb4⟩ := hb
    obtain ⟨had1, had2⟩ := had
    obtain ⟨hat1, hat2⟩ := hat
    have HC1 := Lib.hid hc1
    have HC2 := Lib.hid hc2
    have HPS : Hid (Ar.sumX N D ((pre ++ [(⟨(f, t), hf, ht⟩ : Lx n)]).map toP) = Ar.sumX N D (pre.map toP) + Ar.at2 N D (f : Int) (t : Int) ∧ Ar.sumX N T ((pre ++ [(⟨(f, t), hf, ht⟩ : Lx n)]).map toP) = Ar.sumX N T (pre.map toP) + Ar.at2 N T (f : Int) (t : Int)) := by
      rw [List.map_append]
      exact ⟨Ar.sumX_snoc _ _ _ _, Ar.sumX_snoc _ _ _ _⟩
    have HQ : Hid (∀ w3, Below W'.heap.size W' w3 → GoesOn (KpT w1.heap.size (w1.heap.size + 1)) (TourI w w.heap.size w1.heap.size (w1.heap.size + 1) N (some ad) dm dc D (some at') tm tc T) (pre ++ [(⟨(f, t), hf, ht⟩ : Lx n)]) W' .normal ⟨#[], []⟩
        (((w3.setCell ⟨w1.heap.size, 0, none⟩ (.int .i64 (Ar.sumX N D (pre.map toP) + Ar.at2 N D (f : Int) (t : Int)))).drew.setCell ⟨w1.heap.size + 1, 0, none⟩ (.int .i64 (Ar.sumX N T (pre.map toP) + Ar.at2 N T (f : Int) (t : Int)))).drew)) := fun w3 hb3 => by
      have e1 : Box (w3.setCell ⟨w1.heap.size, 0, none⟩ (.int .i64 (Ar.sumX N D (pre.map toP) + Ar.at2 N D (f : Int) (t : Int)))).drew w1.heap.size #[(.int .i64 (Ar.sumX N D (pre.map toP) + Ar.at2 N D (f : Int) (t : Int)))] 2 := box_set (w := w3) (hI.d.below hb3) _
      have e2 : Box (w3.setCell ⟨w1.heap.size, 0, none⟩ (.int .i64 (Ar.sumX N D (pre.map toP) + Ar.at2 N D (f : Int) (t : Int)))).drew (w1.heap.size + 1) #[.int .i64 (Ar.sumX N T (pre.map toP))] 2 := box_other (w := w3) (hI.t.below hb3) (by omega) _
      have hk : KpT w1.heap.size (w1.heap.size + 1) W' (((w3.setCell ⟨w1.heap.size, 0, none⟩ (.int .i64 (Ar.sumX N D (pre.map toP) + Ar.at2 N D (f : Int) (t : Int)))).drew.setCell ⟨w1.heap.size + 1, 0, none⟩ (.int .i64 (Ar.sumX N T (pre.map toP) + Ar.at2 N T (f : Int) (t : Int)))).drew) :=
        (((((KpT.below hb3).trans (kpT_set _ _ _ _ _ (.inl rfl))).trans (kpT_drew _ _ _)).trans (kpT_set _ _ _ _ _ (.inr rfl))).trans (kpT_drew _ _ _))
      refine ⟨(((((others_below hb3).trans (KeepsOthers.setCell _ _ _)).trans (others_drew _)).trans (KeepsOthers.setCell _ _ _)).trans (others_drew _)), hk, ⟨hk.box (by omega) (by omega) hI.box, ?_, ?_, ?_⟩⟩
      · rw [HPS.out.1]
        exact box_other e1 (by omega) _
      · rw [HPS.out.2]
        exact box_set e2 _
      · exact (((below_next hI.bel hb3).setCell (p := ⟨w1.heap.size, 0, none⟩) (by show w.heap.size ≤ w1.heap.size; omega) _).drew.setCell (p := ⟨w1.heap.size + 1, 0, none⟩) (by show w.heap.size ≤ w1.heap.size + 1; omega) _).drew
    have HAB : Hid ((at'.add p).block ≠ w1.heap.size ∧ (at'.add p).block ≠ w1.heap.size + 1) := by
      obtain ⟨_, _, q, _, _, _, _, e, _, h9⟩ := at_ok HO.out HRW.out hf ht
      obtain rfl := Option.some.inj e
      have := lt_of_cell h9
      rw [block_add] at this ⊢
      constructor <;> omega
    have HDD : Hid (Box W' w1.heap.size #[.int .i64 (Ar.sumX N D (pre.map toP))] 2 ∧ Box W' (w1.heap.size + 1) #[.int .i64 (Ar.sumX N T (pre.map toP))] 2) := ⟨hI.d, hI.t⟩
    have hbb2 : Ar.sumX N D (pre.map toP) ≤ 100000000 := by omega
    have hbb4 : Ar.sumX N T (pre.map toP) ≤ 100000000 := by omega
    clear hI hbx hc1 hc2 hp hlen hb2 hb4
    generalize Ar.sumX N D (pre.map toP) = sd at *
    generalize Ar.sumX N T (pre.map toP) = st at *
    generalize Ar.at2 N D (f : Int) (t : Int) = dd at *
    generalize Ar.at2 N T (f : Int) (t : Int) = tt at *
    unfold updT
    gi_wp2
    refine ⟨trivial, rfl, (CallsIn.inRound l (callsIn_wide.2 (HP.out W'))).mono ?_⟩
    rintro en w3 ⟨rfl, hb3⟩
    clear x0 x1 x2
    have x1 : w3.cell? ⟨w.heap.size, 1, none⟩ = some (.slice (some ad) dm dc) := (HI.out.box.below hb3.out).cell 1 _ rfl
    have x2 : w3.cell? ⟨w.heap.size, 2, none⟩ = some (.slice (some at') tm tc) := (HI.out.box.below hb3.out).cell 2 _ rfl
    have y1 : w3.cell? ⟨w1.heap.size, 0, none⟩ = some (.int .i64 sd) := (HDD.out.1.below hb3.out).cell 0 _ rfl
    have f1 : w3.frozen? ⟨w1.heap.size, 0, none⟩ = false := by unfold World.frozen?; rw [show w3.heap[w1.heap.size]? = _ from HDD.out.1.below hb3.out]; simp
    have z1 : w3.cell? (ad.add p) = some (.int .i64 dd) := by rw [hb3.out.cell (p := ad.add p) (lt_of_cell HC1.out)]; exact HC1.out
    have wr1 : IntKind.i64.wrap (sd + dd) = sd + dd := IntWalk.i64_in _ (by omega)
    gi_wp2
    refine reads_then 7 (by kernel_rfl) (by kernel_rfl) (by kernel_rfl) (fun _ _ h => h) ?_
    simp only [List.take_succ_cons, List.take_zero, List.drop_succ_cons, List.drop_zero]
    repeat still_step
    try refine wpStill_nil ?_
    have HE : Hid (Box (w3.setCell ⟨w1.heap.size, 0, none⟩ (.int .i64 (sd + dd))).drew (w1.heap.size + 1) #[.int .i64 st] 2 ∧ KpT w1.heap.size (w1.heap.size + 1) W' (w3.setCell ⟨w1.heap.size, 0, none⟩ (.int .i64 (sd + dd))).drew) :=
      ⟨box_other (w := w3) (HDD.out.2.below hb3.out) (by omega) _, ((KpT.below hb3.out).trans (kpT_set _ _ _ _ _ (.inl rfl))).trans (kpT_drew _ _ _)⟩
    have HQ2 := Lib.hid (HQ.out w3 hb3.out)
    go_wp2
    clear x1 x2 y1 f1 z1 wr1 HQ hb3
    generalize (w3.setCell ⟨w1.heap.size, 0, none⟩ (.int .i64 (sd + dd))).drew = w4 at *
    have x2 : w4.cell? ⟨w.heap.size, 2, none⟩ = some (.slice (some at') tm tc) := (HE.out.2.box (by omega) (by omega) HI.out.box).cell 2 _ rfl
    have y1 : w4.cell? ⟨w1.heap.size + 1, 0, none⟩ = some (.int .i64 st) := HE.out.1.cell 0 _ rfl
    have f1 : w4.frozen? ⟨w1.heap.size + 1, 0, none⟩ = false := by unfold World.frozen?; rw [show w4.heap[w1.heap.size + 1]? = _ from HE.out.1]; simp
    have z1 : w4.cell? (at'.add p) = some (.int .i64 tt) := HE.out.2.cell HAB.out.1 HAB.out.2 HC2.out
    have wr1 : IntKind.i64.wrap (st + tt) = st + tt := IntWalk.i64_in _ (by omega)
    refine reads_then 7 (by kernel_rfl) (by kernel_rfl) (by kernel_rfl) (fun _ _ h => h) ?_
    simp only [List.take_succ_cons, List.take_zero, List.drop_succ_cons, List.drop_zero]
    repeat still_step
    try refine wpStill_nil ?_
    go_wp2
    exact HQ2.out
  case done =>
    rintro D' xs W' hD hS hI hK
    have hS' : xs.map toP = Ar.tourX ls := hS
    have y1 : W'.cell? ⟨w1.heap.size, 0, none⟩ = some (.int .i64 (Ar.sumX N D (Ar.tourX ls))) := by have := hI.d.cell 0 _ rfl; rw [hS'] at this; exact this
    have y2 : W'.cell? ⟨w1.heap.size + 1, 0, none⟩ = some (.int .i64 (Ar.sumX N T (Ar.tourX ls))) := by have := hI.t.cell 0 _ rfl; rw [hS'] at this; exact this
    have HBE := Lib.hid hI.bel
    have HK := Lib.hid hK
    have HD := Lib.hid hD
    clear hS hS' hI hK hD
    have HKD : Hid (∀ q, (W'.drewN q).heap[D']? = some (.deferred (some []))) := fun q => HK.out
    have HBD : Hid (∀ q, Below w.heap.size w ((W'.drewN q).putObj D' (.deferred none))) := fun q =>
      below_grown (W := W'.drewN q) (HBE.out.trans ⟨rfl, rfl, rfl, Nat.le_refl _, fun _ _ => rfl⟩) (grownBy_putObj' _ D' (.deferred none)) (fun r e => by injection e with e; have := HD.out; have := HSZ.out; omega)
    go_wp2
    go_quiet (fail)
    go_wp2
    refine ⟨by simp, .inl ⟨_, _, rfl, run_takeDeferred (HKD.out _), ?_⟩⟩
    exact ⟨_, results_tmp3 rfl _ _ _, rfl, HBD.out _⟩
end Go.Proofs.Ytllffjgjmeibnaa
