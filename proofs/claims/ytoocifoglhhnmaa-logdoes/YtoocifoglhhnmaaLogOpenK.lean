/- Open, with what the records keep clear of besides. -/
import Derived.Test.YtoocifoglhhnmaaLogOpen
namespace Go.Proofs.Ytoocifoglhhnmaa
open Go.RowKit Go.Shelf
set_option linter.unusedVariables false
attribute [local go_sem] Oper.semAt_some

/-- what Open answers and leaves: K may be turned later, G the records keep clear of besides -/
def OpenPostK (W : World) (base g s n : Nat) (G : Nat → Prop) (q : Dk.D × Int × Lg.L) (e : Ending) (w' : World) : Prop :=
  (q.2.1 = 0 ∧ ∃ (lb : Nat) (K : Nat → Prop) (v : Value), e = .returned (.tuple #[.pointer (some ⟨lb, 0, none⟩), .int .i64 0]) ∧ Held w' base (fun i => K i ∨ G i) lb v g s n q.2.2 q.1 ∧ Kept (Two g s) W w' ∧ (∀ i, K i → Two g s i ∨ W.heap.size ≤ i) ∧ K lb ∧ (∀ i, Two g s i → K i) ∧ ∀ i, v.ownBlock = some i → K i) ∨
  (q.2.1 ≠ 0 ∧ e = .returned (.tuple #[.pointer none, .int .i64 q.2.1]) ∧ DiskAt w' g s n q.1 ∧ Kept (Two g s) W w')

set_option maxRecDepth 100000 in
set_option maxHeartbeats 4000000 in
theorem open_k (W : World) (base g s n : Nat) (G : Nat → Prop) (hGl : ∀ i, G i → i < W.heap.size) (hGb : ∀ i, G i → base ≤ i) (d : Dk.D) (h : DiskAt W g s n d) (hn4 : 4 ≤ n) (hw : d.writes ≤ 800000) (hbg : base ≤ g) (hbs : base ≤ s) :
    Calls Try.prog 10 #[.pointer (some ⟨g, 0, none⟩)] W fun e w' => OpenPostK W base g s n G (openQ n d) e w' := by
  have HS := Lib.hid (sectors_any g s n d W h)
  have hn1 := h.n1
  have d1 : decide ((n : Int) < 4) = false := decide_eq_false (by omega)
  have H := Lib.hid h
  clear h
  have HCHO := Lib.hid (fun W4 lb hh => choose_any W4 lb g s n d hh hn4 (by omega))
  have HCW : Hid ((chooseQ n d).1.writes ≤ 800001) := chooseQ_writes n d hw
  have HCG := Lib.hid (chooseQ_good n d)
  have HOQ : Hid (openQ n d = openEnd n (chooseQ n d)) := rfl
  generalize openQ n d = OQ at *
  generalize chooseQ n d = cq at *
  obtain ⟨dq, cc, gen, half⟩ := cq
  dsimp only at HCHO HCW HCG
  refine (callsIn_wide (n := 0)).1 ?_
  refine callsIn_of_wp_marks Try.func10 rfl trivial ?_ rfl
  simp only [Try.ntmps10, List.size_toArray, List.length_cons, List.length_nil, Nat.reduceAdd, Nat.reduceSub, Array.replicate_succ, Array.replicate_zero, List.push_toArray, List.append_toArray, List.nil_append, List.cons_append]
  refine wpIn_wide.2 ?_
  go_wp2_with (go_at_call 30; refine HS.out.mono ?_; rintro e w' ⟨rfl, rfl⟩)
  have HW4 : Hid (RawAt ((W.alloc (.cells #[.pointer (some ⟨g, 0, none⟩), .int .i64 0, .int .i64 ((n : Int) / 2), .pointer (some ⟨g, 0, none⟩), .int .i64 ((n : Int) / 2), .int .i64 ((n : Int) / 2), .int .i64 0, .slice none 0 0, .int .i64 0, .bool false] 67)).alloc (.cells #[.pointer (some ⟨W.heap.size, 0, none⟩)] 32)) W.heap.size g s n 0 0 d ∧
      PBox ((W.alloc (.cells #[.pointer (some ⟨g, 0, none⟩), .int .i64 0, .int .i64 ((n : Int) / 2), .pointer (some ⟨g, 0, none⟩), .int .i64 ((n : Int) / 2), .int .i64 ((n : Int) / 2), .int .i64 0, .slice none 0 0, .int .i64 0, .bool false] 67)).alloc (.cells #[.pointer (some ⟨W.heap.size, 0, none⟩)] 32)) (W.heap.size + 1) W.heap.size ∧
      Below W.heap.size W ((W.alloc (.cells #[.pointer (some ⟨g, 0, none⟩), .int .i64 0, .int .i64 ((n : Int) / 2), .pointer (some ⟨g, 0, none⟩), .int .i64 ((n : Int) / 2), .int .i64 ((n : Int) / 2), .int .i64 0, .slice none 0 0, .int .i64 0, .bool false] 67)).alloc (.cells #[.pointer (some ⟨W.heap.size, 0, none⟩)] 32))) := by
    have hb : Below W.heap.size W ((W.alloc (.cells #[.pointer (some ⟨g, 0, none⟩), .int .i64 0, .int .i64 ((n : Int) / 2), .pointer (some ⟨g, 0, none⟩), .int .i64 ((n : Int) / 2), .int .i64 ((n : Int) / 2), .int .i64 0, .slice none 0 0, .int .i64 0, .bool false] 67)).alloc (.cells #[.pointer (some ⟨W.heap.size, 0, none⟩)] 32)) := ((Below.refl _ W).alloc (Nat.le_refl _) _).alloc (by simp) _
    refine ⟨⟨?_, H.out.below hb⟩, ?_, hb⟩
    · rw [Below.heap_alloc _ _ _ (by simp)]
      have := heap_alloc_new W (.cells #[.pointer (some ⟨g, 0, none⟩), .int .i64 0, .int .i64 ((n : Int) / 2), .pointer (some ⟨g, 0, none⟩), .int .i64 ((n : Int) / 2), .int .i64 ((n : Int) / 2), .int .i64 0, .slice none 0 0, .int .i64 0, .bool false] 67)
      rw [this]
      unfold logCells raw
      simp only [start_zero, start_one, Nat.sub_zero]
      rfl
    · unfold PBox
      have := heap_alloc_new (W.alloc (.cells #[.pointer (some ⟨g, 0, none⟩), .int .i64 0, .int .i64 ((n : Int) / 2), .pointer (some ⟨g, 0, none⟩), .int .i64 ((n : Int) / 2), .int .i64 ((n : Int) / 2), .int .i64 0, .slice none 0 0, .int .i64 0, .bool false] 67)) (.cells #[.pointer (some ⟨W.heap.size, 0, none⟩)] 32)
      rw [show (W.alloc (.cells #[.pointer (some ⟨g, 0, none⟩), .int .i64 0, .int .i64 ((n : Int) / 2), .pointer (some ⟨g, 0, none⟩), .int .i64 ((n : Int) / 2), .int .i64 ((n : Int) / 2), .int .i64 0, .slice none 0 0, .int .i64 0, .bool false] 67)).heap.size = W.heap.size + 1 by simp] at this
      exact this
  generalize (W.alloc (.cells #[.pointer (some ⟨g, 0, none⟩), .int .i64 0, .int .i64 ((n : Int) / 2), .pointer (some ⟨g, 0, none⟩), .int .i64 ((n : Int) / 2), .int .i64 ((n : Int) / 2), .int .i64 0, .slice none 0 0, .int .i64 0, .bool false] 67)).alloc (.cells #[.pointer (some ⟨W.heap.size, 0, none⟩)] 32) = W4 at *
  refine (HCHO.out W4 W.heap.size HW4.out.1).mono ?_
  rintro e w5 ⟨rfl, hr5, hk5⟩
  have hgl := H.out.ltg
  have hsl := H.out.lts
  have HP5 : Hid (PBox w5 (W.heap.size + 1) W.heap.size) := HW4.out.2.1.keep hk5 (by rintro (⟨e | e⟩ | e) <;> omega)
  have HK5 : Hid (Kept (Two g s) W w5) := (Kept.of_below HW4.out.2.2).step hk5 (fun i hi e => by
    rcases e with e | e
    · exact e
    · omega)
  have HR5 := Lib.hid hr5
  clear hr5 hk5 HW4 HCHO
  by_cases hcc : cc = 0
  case neg =>
    have d3 : (cc != 0) = true := bne_iff_ne.2 hcc
    have HQ : Hid (OQ = (dq, cc, raw 0 0)) := by have := HOQ.out; unfold openEnd at this; rw [if_neg hcc] at this; exact this
    go_wp2
    refine ⟨_, results_tmp2 rfl _ _ _, .inr ?_⟩
    rw [HQ.out]
    exact ⟨hcc, rfl, HR5.out.disk, HK5.out⟩
  subst hcc
  have p0 := HP5.out.cell
  have c8 : w5.cell? ⟨W.heap.size, 8, none⟩ = some (.int .i64 ((0 : Nat) : Int)) := HR5.out.cell 8 (.int .i64 ((0 : Nat) : Int)) rfl
  have f8 := HR5.out.fz 8
  have hlb5 := HR5.out.lt
  have HR6 : Hid ((w5.setCell ⟨W.heap.size, 8, none⟩ (.int .i64 1)).heap[W.heap.size]? = some (.cells (logCells g n ⟨half, gen, [], 1, false⟩ (.slice none 0 0)) 67 (0, 0)) ∧ DiskAt (w5.setCell ⟨W.heap.size, 8, none⟩ (.int .i64 1)) g s n dq ∧ PBox (w5.setCell ⟨W.heap.size, 8, none⟩ (.int .i64 1)) (W.heap.size + 1) W.heap.size ∧ Kept (Two g s) W (w5.setCell ⟨W.heap.size, 8, none⟩ (.int .i64 1))) := by
    have hk : Kept (fun i => i = W.heap.size) w5 (w5.setCell ⟨W.heap.size, 8, none⟩ (.int .i64 1)) := (Kept.refl (fun i => i = W.heap.size) w5).setCell (p := ⟨W.heap.size, 8, none⟩) (.inl rfl) _
    exact ⟨top_set HR5.out.top 8 (.int .i64 1), HR5.out.disk.keep hk (by omega) (by omega), HP5.out.keep hk (by omega), HK5.out.step hk (fun i hi e => by omega)⟩
  clear HR5 HP5 HK5
  go_wp2_with fail
  clear c8 f8 p0 hlb5
  generalize w5.setCell ⟨W.heap.size, 8, none⟩ (.int .i64 1) = w6 at *
  have hcell : ∀ (k : Nat) (u : Value), (logCells g n ⟨half, gen, [], 1, false⟩ (.slice none 0 0))[k]? = some u → w6.drew.cell? ⟨W.heap.size, k, none⟩ = some u := fun k u hu => by
    have : w6.cell? ⟨W.heap.size, k, none⟩ = some u := by rw [cell_of_row w6 W.heap.size k _ _ _ HR6.out.1]; exact hu
    exact this
  have p0 : w6.drew.cell? ⟨W.heap.size + 1, 0, none⟩ = some (.pointer (some ⟨W.heap.size, 0, none⟩)) := HR6.out.2.2.1.cell
  have c0 := hcell 0 (.pointer (some ⟨g, 0, none⟩)) rfl
  have c1 := hcell 1 (.int .i64 (Lg.start n half : Nat)) rfl
  have c2 := hcell 2 (.int .i64 (n / 2 : Nat)) rfl
  have c6 := hcell 6 (.int .i64 (gen : Nat)) rfl
  clear hcell
  go_still_tail 8, (by kernel_rfl)
  go_wp2_with fail
  refine (recordsF_any g (Lg.start n half) (n / 2) gen w6.drew).mono ?_
  rintro e w7 ⟨rfl, rfl⟩
  go_wp2_with fail
  have hlt6 : W.heap.size + 1 < w6.heap.size := HR6.out.2.2.1.lt
  have HR7 : Hid (((w6.alloc (.cells #[.pointer (some ⟨g, 0, none⟩), .int .i64 (Lg.start n half : Nat), .int .i64 ((n : Int) / 2)] 65)).alloc (.cells #[.int .i64 (gen : Int)] 3)).drew.heap[W.heap.size]? = some (.cells (logCells g n ⟨half, gen, [], 1, false⟩ (.slice none 0 0)) 67 (0, 0)) ∧
      PBox ((w6.alloc (.cells #[.pointer (some ⟨g, 0, none⟩), .int .i64 (Lg.start n half : Nat), .int .i64 ((n : Int) / 2)] 65)).alloc (.cells #[.int .i64 (gen : Int)] 3)).drew (W.heap.size + 1) W.heap.size ∧
      Kept (Two g s) W ((w6.alloc (.cells #[.pointer (some ⟨g, 0, none⟩), .int .i64 (Lg.start n half : Nat), .int .i64 ((n : Int) / 2)] 65)).alloc (.cells #[.int .i64 (gen : Int)] 3)).drew ∧
      Seen W.heap.size g s n (Lg.start n half) (n / 2) gen w6.heap.size (w6.heap.size + 1) ((w6.alloc (.cells #[.pointer (some ⟨g, 0, none⟩), .int .i64 (Lg.start n half : Nat), .int .i64 ((n : Int) / 2)] 65)).alloc (.cells #[.int .i64 (gen : Int)] 3)).drew.heap.size dq [] ((w6.alloc (.cells #[.pointer (some ⟨g, 0, none⟩), .int .i64 (Lg.start n half : Nat), .int .i64 ((n : Int) / 2)] 65)).alloc (.cells #[.int .i64 (gen : Int)] 3)).drew ∧
      W.heap.size + 1 < ((w6.alloc (.cells #[.pointer (some ⟨g, 0, none⟩), .int .i64 (Lg.start n half : Nat), .int .i64 ((n : Int) / 2)] 65)).alloc (.cells #[.int .i64 (gen : Int)] 3)).drew.heap.size) := by
    have hb : Below w6.heap.size w6 ((w6.alloc (.cells #[.pointer (some ⟨g, 0, none⟩), .int .i64 (Lg.start n half : Nat), .int .i64 ((n : Int) / 2)] 65)).alloc (.cells #[.int .i64 (gen : Int)] 3)).drew := (((Below.refl _ w6).alloc (Nat.le_refl _) _).alloc (by simp) _).drew
    have hgs : ¬ Two g s W.heap.size := by rintro (e | e) <;> omega
    refine ⟨(hb.block _ (by omega)).trans HR6.out.1, (hb.block _ hlt6).trans HR6.out.2.2.1, HR6.out.2.2.2.trans (Kept.of_below hb), ⟨HR6.out.2.1.below hb, ?_, ?_, hgs, by omega, by omega, Nat.le_refl _, fun x hx => by cases hx⟩, Nat.lt_of_lt_of_le hlt6 hb.size⟩
    · have e1 := Below.heap_alloc (w6.alloc (.cells #[.pointer (some ⟨g, 0, none⟩), .int .i64 (Lg.start n half : Nat), .int .i64 ((n : Int) / 2)] 65)) (.cells #[.int .i64 (gen : Int)] 3) w6.heap.size (by simp)
      exact e1.trans (heap_alloc_new w6 _)
    · have := heap_alloc_new (w6.alloc (.cells #[.pointer (some ⟨g, 0, none⟩), .int .i64 (Lg.start n half : Nat), .int .i64 ((n : Int) / 2)] 65)) (.cells #[.int .i64 (gen : Int)] 3)
      rw [show (w6.alloc (.cells #[.pointer (some ⟨g, 0, none⟩), .int .i64 (Lg.start n half : Nat), .int .i64 ((n : Int) / 2)] 65)).heap.size = w6.heap.size + 1 by simp] at this
      exact this
  clear HR6 p0 c0 c1 c2 c6
  generalize ((w6.alloc (.cells #[.pointer (some ⟨g, 0, none⟩), .int .i64 (Lg.start n half : Nat), .int .i64 ((n : Int) / 2)] 65)).alloc (.cells #[.int .i64 (gen : Int)] 3)).drew = w7 at *
  obtain ⟨hg0, hg1, hh1⟩ := HCG.out trivial
  have hst := Lg.start_le (n := n) hh1
  refine range_law (gf := 62) (lv := #[.pointer (some ⟨w6.heap.size, 0, none⟩), .pointer (some ⟨w6.heap.size + 1, 0, none⟩)]) rfl (enters_of Try.func62 (by kernel_rfl) rfl) encR (fun _ => rfl) (KpL W.heap.size) KpL.trans (KpL.put W.heap.size)
    (OpenI W.heap.size g n half gen (W.heap.size + 1) w7) (OpenS W.heap.size g s n (Lg.start n half) (n / 2) gen w6.heap.size (w6.heap.size + 1) w7.heap.size dq) (openI_own _ _ _ _ _ _ _) (openS_own _ _ _ _ _ _ _ _ _ _ _ _)
    ⟨.slice none 0 0, HR7.out.1, World.ownsRow_nil _ _ _ _, HR7.out.2.1, Kept.refl _ _⟩
    (fun l J W1 hb hJ hY h0 => iter_any W.heap.size g s n (Lg.start n half) (n / 2) gen w6.heap.size (w6.heap.size + 1) w7.heap.size dq l J W1 hst (by omega) (by omega) (HR7.out.2.2.2.1.kp (KpL.below hb)) (by have := HR7.out.2.2.2.2; omega) hJ hY h0) updR ?assign ?body ?done
  case assign =>
    intro l x W' K hK
    unfold updR at hK
    unfold encR
    gi_wp2
    simpa using hK
  case body =>
    rintro l pre x W' ⟨v, ht, ho, hp, hk⟩ hN
    obtain ⟨A, c, hv, hnc, hcm, _, _⟩ := ownsRow_slice ho
    subst hv
    have p0 := hp.cell
    have c8 : W'.cell? ⟨W.heap.size, 8, none⟩ = some (.int .i64 ((lastEnd pre : Nat) : Int)) := by rw [cell_of_row W' W.heap.size 8 _ _ _ ht]; rfl
    have f8 : W'.frozen? ⟨W.heap.size, 8, none⟩ = false := by unfold World.frozen?; rw [ht]; simp
    have HALL : Hid (∃ A' c' w6, (Builtin.append_ #[45, 45] 45 #[.slice A pre.length c, .slice (some ⟨(W'.setCell ⟨W.heap.size, 8, none⟩ (.int .i64 (x.1 : Int))).drew.heap.size, 0, none⟩) 1 1]).run Try.prog ((W'.setCell ⟨W.heap.size, 8, none⟩ (.int .i64 (x.1 : Int))).drew.alloc (.cells #[.slice (some ⟨x.2.1, 0, none⟩) x.2.2.length x.2.2.length] 38)) = .ok (.slice A' (pre.length + 1) c') w6 ∧
        (W'.setCell ⟨W.heap.size, 8, none⟩ (.int .i64 (x.1 : Int))).drew.cell? ⟨W.heap.size + 1, 0, none⟩ = some (.pointer (some ⟨W.heap.size, 0, none⟩)) ∧ ((W'.setCell ⟨W.heap.size, 8, none⟩ (.int .i64 (x.1 : Int))).drew.alloc (.cells #[.slice (some ⟨x.2.1, 0, none⟩) x.2.2.length x.2.2.length] 38)).cell? ⟨W.heap.size + 1, 0, none⟩ = some (.pointer (some ⟨W.heap.size, 0, none⟩)) ∧ w6.cell? ⟨W.heap.size + 1, 0, none⟩ = some (.pointer (some ⟨W.heap.size, 0, none⟩)) ∧
        (W'.setCell ⟨W.heap.size, 8, none⟩ (.int .i64 (x.1 : Int))).drew.cell? ⟨W.heap.size, 7, none⟩ = some (.slice A pre.length c) ∧ ((W'.setCell ⟨W.heap.size, 8, none⟩ (.int .i64 (x.1 : Int))).drew.alloc (.cells #[.slice (some ⟨x.2.1, 0, none⟩) x.2.2.length x.2.2.length] 38)).cell? ⟨W.heap.size, 7, none⟩ = some (.slice A pre.length c) ∧ w6.cell? ⟨W.heap.size, 7, none⟩ = some (.slice A pre.length c) ∧ w6.frozen? ⟨W.heap.size, 7, none⟩ = false ∧
        GoesOn (KpL W.heap.size) (OpenI W.heap.size g n half gen (W.heap.size + 1) w7) (pre ++ [x]) W' .normal ⟨#[], []⟩ (w6.setCell ⟨W.heap.size, 7, none⟩ (.slice A' (pre.length + 1) c'))) := by
      have hkl : Kept (fun i => i = W.heap.size) W' (W'.setCell ⟨W.heap.size, 8, none⟩ (.int .i64 (x.1 : Int))).drew := ((Kept.refl (fun i => i = W.heap.size) W').setCell (p := ⟨W.heap.size, 8, none⟩) (.inl rfl) _).drew
      have ht8 : (W'.setCell ⟨W.heap.size, 8, none⟩ (.int .i64 (x.1 : Int))).drew.heap[W.heap.size]? = some (.cells ((logCells g n ⟨half, gen, [], lastEnd pre, false⟩ (.slice A pre.length c)).setIfInBounds 8 (.int .i64 (x.1 : Int))) 67 (0, 0)) := top_set ht 8 _
      have hne : ∀ i, Value.ownBlock (.slice A pre.length c) = some i → i ≠ W.heap.size := fun i hi e => by subst e; exact own_ne ho ht (by decide) hi.symm
      have hnp : ∀ i, Value.ownBlock (.slice A pre.length c) = some i → i ≠ W.heap.size + 1 := fun i hi e => by subst e; exact own_ne ho hp (by decide) hi.symm
      have hown8 : (W'.setCell ⟨W.heap.size, 8, none⟩ (.int .i64 (x.1 : Int))).drew.ownsRow w7.heap.size 38 1 (.slice A pre.length c) pre.length (pre.map encS) := by
        obtain ⟨q1, q2⟩ := ho
        refine ⟨q1, ?_⟩
        rcases q2 with q2 | ⟨gg, cap, cur, e1, e2, e3, e4⟩
        · exact .inl q2
        · exact .inr ⟨gg, cap, cur, e1, e2, (hkl.block gg (Array.getElem?_eq_some_iff.1 e3).1 (hne gg (by rw [e1]; rfl))).trans e3, e4⟩
      have hp8 : PBox (W'.setCell ⟨W.heap.size, 8, none⟩ (.int .i64 (x.1 : Int))).drew (W.heap.size + 1) W.heap.size := hp.keep hkl (by omega)
      generalize hW8 : (W'.setCell ⟨W.heap.size, 8, none⟩ (.int .i64 (x.1 : Int))).drew = W8 at *
      obtain ⟨A', c', w6, hr, ho6, hk6⟩ := val_app W8 w7.heap.size _ pre.length (pre.map encS) hown8 (Nat.le_trans hk.size hkl.size) (by omega) (some ⟨x.2.1, 0, none⟩) x.2.2.length x.2.2.length
      have ht6 := (hk6.block W.heap.size (Array.getElem?_eq_some_iff.1 ht8).1 (fun e => hne _ e rfl)).trans ht8
      have hp6 : PBox w6 (W.heap.size + 1) W.heap.size := hp8.keep hk6 (fun e => hnp _ e rfl)
      have hka : Kept No W8 (W8.alloc (.cells #[.slice (some ⟨x.2.1, 0, none⟩) x.2.2.length x.2.2.length] 38)) := (Kept.refl No W8).alloc _
      have hta := (hka.block W.heap.size (Array.getElem?_eq_some_iff.1 ht8).1 id).trans ht8
      have hkz : Kept (fun i => i = W.heap.size) w6 (w6.setCell ⟨W.heap.size, 7, none⟩ (.slice A' (pre.length + 1) c')) := (Kept.refl (fun i => i = W.heap.size) w6).setCell (p := ⟨W.heap.size, 7, none⟩) (.inl rfl) _
      have hkall : Kept (fun i => i = W.heap.size ∨ Value.ownBlock (.slice A pre.length c) = some i) W' (w6.setCell ⟨W.heap.size, 7, none⟩ (.slice A' (pre.length + 1) c')) := ((hkl.wide (fun _ _ e => .inl e)).trans (hk6.wide (fun _ _ e => .inr e))).trans (hkz.wide (fun _ _ e => .inl e))
      have hoc : ∀ i, Value.ownBlock (.slice A pre.length c) = some i → ∃ cs, W'.heap[i]? = some (.cells cs 38 (0, 0)) := fun i hi => by
        rcases ho.2 with ⟨e1, _⟩ | ⟨gg, cap, cur, e1, e2, e3, e4⟩
        · rw [e1] at hi; simp [Value.ownBlock] at hi
        · rw [e1] at hi; simp [Value.ownBlock] at hi; subst hi; exact ⟨_, e3⟩
      have hob : ∀ i, Value.ownBlock (.slice A pre.length c) = some i → w7.heap.size ≤ i := fun i hi => (ho.lt i hi).1
      refine ⟨A', c', w6, hr, hp8.cell, (hp8.keep hka id).cell, hp6.cell, ?_, ?_, ?_, ?_, ?_, ?_, ?_⟩
      · rw [cell_of_row _ _ 7 _ _ _ ht8]; rfl
      · rw [cell_of_row _ _ 7 _ _ _ hta]; rfl
      · rw [cell_of_row _ _ 7 _ _ _ ht6]; rfl
      · unfold World.frozen?; rw [ht6]; simp
      · exact ⟨hkall.size, fun k o hk' ho' => (hkall.block k (Array.getElem?_eq_some_iff.1 hk').1 (by
          rintro (e | e)
          · rw [e, ht] at hk'; obtain rfl := Option.some.inj hk'; simp [Obj.isCells] at ho'
          · obtain ⟨cs, hcs⟩ := hoc k e
            rw [hcs] at hk'; obtain rfl := Option.some.inj hk'; simp [Obj.isCells] at ho')).trans hk'⟩
      · exact ⟨hkall.size, fun i cs t fr h1 h2 h3 => (hkall.block i (Array.getElem?_eq_some_iff.1 h3).1 (by
          rintro (e | e)
          · exact h1 e
          · obtain ⟨cs', hcs⟩ := hoc i e
            rw [hcs] at h3
            injection h3 with h3
            injection h3 with _ h3
            exact h2 h3.symm)).trans h3⟩
      · refine ⟨.slice A' (pre.length + 1) c', ?_, ?_, hp6.keep hkz (by omega), ?_⟩
        · have := top_set ht6 7 (.slice A' (pre.length + 1) c')
          rw [lastEnd_snoc]
          exact this
        · rw [List.length_append, List.map_append]
          obtain ⟨q1, q2⟩ := ho6
          refine ⟨q1, ?_⟩
          rcases q2 with q2 | ⟨gg, cap, cur, e1, e2, e3, e4⟩
          · exact .inl q2
          · exact .inr ⟨gg, cap, cur, e1, e2, (hkz.block gg (Array.getElem?_eq_some_iff.1 e3).1 (fun e => by rw [e, ht6] at e3; injection e3 with e3; injection e3 with _ e3; exact absurd e3 (by decide))).trans e3, e4⟩
        · exact ((hk.trans hkl).step hk6 (fun i hi e => absurd (hob i e) (by omega))).trans hkz
    clear ht ho hp hk hnc hcm
    unfold updR
    gi_wp2
    obtain ⟨A', c', w6, hr, p1, p2, p3, v1, v2, v3, f3, hgo⟩ := HALL.out
    refine row_region rfl (W.heap.size + 1) W.heap.size (some ⟨x.2.1, 0, none⟩) x.2.2.length x.2.2.length A pre.length c A' (pre.length + 1) c' w6 rfl ⟨_, rfl, rfl, rfl, rfl⟩ ⟨_, rfl, rfl, rfl, rfl⟩ ⟨_, rfl, rfl, rfl, rfl⟩ ⟨_, rfl, rfl, rfl, rfl⟩ ⟨_, rfl, rfl, rfl, rfl⟩ ⟨_, rfl, rfl, rfl, rfl⟩ ⟨_, rfl, rfl, rfl, rfl⟩ ⟨_, rfl, rfl, rfl, rfl, rfl⟩ ⟨_, rfl, rfl, rfl, rfl⟩ ⟨_, rfl, rfl, rfl, rfl⟩ ⟨_, rfl, rfl, rfl, rfl⟩
      (by kernel_rfl) rfl rfl rfl p1 p2 p3 v1 v2 v3 f3 hr (fun a' => ?_)
    exact hgo
  case done =>
    rintro D xs W' hD ⟨hm1, hm2, hseen⟩ ⟨v, ht, ho, hp, hk⟩ hK
    have hlw7 := HR7.out.2.2.2.2
    have hfe := Lg.scan_end (g := gen) hseen.disk.good.len hst (n / 2) 1 0 (by omega)
    have hngD : ¬ Two g s D := by rintro (e | e) <;> omega
    have hngP : ¬ Two g s (W.heap.size + 1) := by rintro (e | e) <;> omega
    have hngL : ¬ Two g s W.heap.size := by rintro (e | e) <;> omega
    have hnvT : ∀ i, v.ownBlock = some i → ¬ Two g s i := fun i hi e => by have := (ho.lt i hi).1; rcases e with e | e <;> omega
    have HQ : Hid (OQ = ((Lg.wipeS n (Lg.start n half) (lastEnd xs) (n / 2) dq).1, (Lg.wipeS n (Lg.start n half) (lastEnd xs) (n / 2) dq).2, ⟨half, gen, xs.map (fun x => x.2.2), lastEnd xs, false⟩)) := by
      have := HOQ.out
      unfold openEnd at this
      rw [if_pos rfl] at this
      rw [hm1, hm2]
      exact this
    rw [← hm1, ← hm2] at hfe
    have hle : lastEnd xs ≤ n / 2 := hfe.1
    have hWI := wipe_any g s n (Lg.start n half) (n / 2) (lastEnd xs) dq W'.drew hseen.disk.drew hst hle (by have := HCW.out; omega)
    have HDEF : Hid (∀ w8, Kept (Two g s) W'.drew w8 → w8.heap[D]? = some (.deferred (some []))) := fun w8 hk8 => (hk8.block D (Array.getElem?_eq_some_iff.1 hK).1 hngD).trans hK
    have HKW : Hid (∀ w8, Kept (Two g s) W'.drew w8 → Kept (Two g s) W (w8.putObj D (.deferred none))) := fun w8 hk8 => by
      have h1 : Kept (Two g s) W W' := HR7.out.2.2.1.step hk (fun i hi e => by omega)
      have h2 : Kept (Two g s) W w8 := ⟨hk8.os.trans h1.os, hk8.tape.trans h1.tape, hk8.output.trans h1.output, Nat.le_trans h1.size hk8.size, (h1.drew.trans hk8).block⟩
      have hWD : W.heap.size ≤ D := by omega
      exact h2.grown (grownBy_putObj' w8 D (.deferred none)) (fun k e => by injection e with e; right; omega)
    have HLOG : Hid (∀ w8 d8, Kept (Two g s) W'.drew w8 → DiskAt w8 g s n d8 → Held (w8.putObj D (.deferred none)) base (fun i => (Two g s i ∨ i = W.heap.size ∨ i = D ∨ v.ownBlock = some i) ∨ G i) W.heap.size v g s n ⟨half, gen, xs.map (fun x => x.2.2), lastEnd xs, false⟩ d8) := fun w8 d8 hk8 hd8 => by
      have hD8 := HDEF.out w8 hk8
      have hput : ∀ (i : Nat) (cs : Array Value) (t : TypeId) (fr : Nat × Nat), w8.heap[i]? = some (.cells cs t fr) → (w8.putObj D (.deferred none)).heap[i]? = some (.cells cs t fr) := fun i cs t fr h => cells_grown (grownBy_putObj' w8 D (.deferred none)) (fun r e => by injection e with e; subst e; exact ⟨_, hD8, rfl⟩) h
      have hold : ∀ (i : Nat) (cs : Array Value) (t : TypeId) (fr : Nat × Nat), ¬ Two g s i → W'.heap[i]? = some (.cells cs t fr) → (w8.putObj D (.deferred none)).heap[i]? = some (.cells cs t fr) := fun i cs t fr hn h => hput i cs t fr ((hk8.block i (Array.getElem?_eq_some_iff.1 h).1 hn).trans h)
      have hown : (w8.putObj D (.deferred none)).ownsRow base 38 1 v (xs.map (fun x => x.2.2)).length (xs.map encS) := by
        rw [List.length_map]
        refine ⟨ho.1, ?_⟩
        rcases ho.2 with h | ⟨q, cap, cur, e1, e2, e3, e4⟩
        · exact .inl h
        · exact .inr ⟨q, cap, cur, e1, by omega, hold q _ _ _ (hnvT q (by rw [e1]; rfl)) e3, e4⟩
      refine ⟨⟨hold _ _ _ _ hngL ht, ⟨xs.map encS, hown, fun k hk => .inl (.inr (.inr (.inr hk))), fun i r hr => ?_⟩, ?_, .inl (.inr (.inl rfl)), fun i hi e => ?_⟩, ⟨hput _ _ _ _ hd8.top, hput _ _ _ _ hd8.row, hd8.good, hd8.n0, hd8.n1⟩, .inl (.inl (.inl rfl)), .inl (.inl (.inr rfl)), ?_, ?_, ?_⟩
      · rw [List.getElem?_map] at hr
        cases hx : xs[i]? with
        | none => rw [hx] at hr; cases hr
        | some x =>
          rw [hx] at hr
          obtain rfl := Option.some.inj hr
          obtain ⟨b1, b2, b3⟩ := hseen.blk x (List.mem_of_getElem? hx)
          refine ⟨encS x, by rw [List.getElem?_map, hx]; rfl, some ⟨x.2.1, 0, none⟩, x.2.2.length, rfl, Nat.le_refl _, Nat.le_trans (hfe.2.2 x.2.2 (List.mem_map.2 ⟨x, List.mem_of_getElem? hx, rfl⟩)) (by decide), ?_⟩
          have hbl : Blk (w8.putObj D (.deferred none)) x.2.1 x.2.2 := hold _ _ _ _ (by rintro (e | e) <;> omega) b1
          refine hbl.bytes ?_
          rintro ((e | e | e | e) | e)
          · rcases e with e | e <;> omega
          · exact b3 e
          · have b4 : W'.heap[x.2.1]? = some (.cells (x.2.2.map bv).toArray 5 (0, 0)) := b1
            rw [e, hK] at b4; cases b4
          · exact own_ne ho b1 (by decide) e.symm
          · have := hGl _ e
            omega
      · refine ⟨hh1, hg0, hg1, hle, ?_, ?_⟩
        · have := hfe.2.1; simpa using this
        · exact hfe.2.2
      · have := (ho.lt i hi).1
        omega
      · have hs8 : w8.heap.size = (w8.putObj D (.deferred none)).heap.size := by simp
        rintro i ((e | e | e | e) | e)
        · rw [← hs8]; rcases e with e | e
          · rw [e]; exact hd8.ltg
          · rw [e]; exact hd8.lts
        · rw [← hs8, e]; exact Nat.lt_of_lt_of_le (Array.getElem?_eq_some_iff.1 ht).1 hk8.size
        · rw [← hs8, e]; exact (Array.getElem?_eq_some_iff.1 hD8).1
        · exact (hown.lt i e).2
        · have h1 := hGl i e
          have : W'.heap.size ≤ w8.heap.size := hk8.size
          have := hk.size
          omega
      · rintro i ((e | e | e | e) | e)
        · rcases e with e | e <;> omega
        · omega
        · omega
        · have := (ho.lt i e).1; omega
        · exact hGb i e
      · have hs8 : w8.heap.size = (w8.putObj D (.deferred none)).heap.size := by simp
        have : W'.heap.size ≤ w8.heap.size := hk8.size
        have := hk.size
        omega
    have hcell : ∀ (k : Nat) (u : Value), (logCells g n ⟨half, gen, [], lastEnd xs, false⟩ v)[k]? = some u → W'.drew.cell? ⟨W.heap.size, k, none⟩ = some u := fun k u hu => by
      have : W'.cell? ⟨W.heap.size, k, none⟩ = some u := by rw [cell_of_row W' W.heap.size k _ _ _ ht]; exact hu
      exact this
    have HFF : Hid (∀ i, (Two g s i ∨ i = W.heap.size ∨ i = D ∨ v.ownBlock = some i) → Two g s i ∨ W.heap.size ≤ i) := fun i e => by
      rcases e with e | e | e | e
      · exact .inl e
      · right; omega
      · right; omega
      · right; have := (ho.lt i e).1; omega
    have p0 : W'.drew.cell? ⟨W.heap.size + 1, 0, none⟩ = some (.pointer (some ⟨W.heap.size, 0, none⟩)) := hp.cell
    have c0 := hcell 0 (.pointer (some ⟨g, 0, none⟩)) rfl
    have c1 := hcell 1 (.int .i64 (Lg.start n half : Nat)) rfl
    have c2 := hcell 2 (.int .i64 (n / 2 : Nat)) rfl
    have c8 := hcell 8 (.int .i64 (lastEnd xs : Nat)) rfl
    have HPB : Hid (∀ w8, Kept (Two g s) W'.drew w8 → w8.cell? ⟨W.heap.size + 1, 0, none⟩ = some (.pointer (some ⟨W.heap.size, 0, none⟩))) := fun w8 hk8 => (PBox.keep (w := W'.drew) hp hk8 hngP).cell
    have HWI := Lib.hid hWI
    clear hWI hcell ht ho hp hk hK hseen hm1 hm2 hfe HR7 HOQ
    generalize Lg.wipeS n (Lg.start n half) (lastEnd xs) (n / 2) dq = z at *
    go_wp2_with fail
    go_still_tail 8, (by kernel_rfl)
    go_wp2_with fail
    refine HWI.out.mono ?_
    rintro e w8 ⟨rfl, hd8, hk8⟩
    have HD8 := Lib.hid (HDEF.out w8 hk8)
    have HL8 := Lib.hid (HLOG.out w8 _ hk8 hd8)
    have HK8 := Lib.hid (HKW.out w8 hk8)
    have q0 := HPB.out w8 hk8
    have HDD : Hid (DiskAt (w8.putObj D (.deferred none)) g s n z.1) := HL8.out.disk
    clear hd8 hk8 HWI HDEF HLOG HKW HPB p0 c0 c1 c2 c8
    by_cases hz : z.2 = 0
    · have d3 : (z.2 != 0) = false := by rw [hz]; rfl
      go_wp2
      refine ⟨by simp, .inl ⟨_, _, rfl, run_takeDeferred HD8.out, ?_⟩⟩
      refine ⟨_, results_tmp2 rfl _ _ _, .inl ?_⟩
      rw [HQ.out]
      exact ⟨hz, W.heap.size, (fun i => Two g s i ∨ i = W.heap.size ∨ i = D ∨ v.ownBlock = some i), v, rfl, HL8.out, HK8.out, HFF.out, .inr (.inl rfl), fun i => .inl, fun i hi => .inr (.inr (.inr hi))⟩
    · have d3 : (z.2 != 0) = true := bne_iff_ne.2 hz
      go_wp2
      refine ⟨by simp, .inl ⟨_, _, rfl, run_takeDeferred HD8.out, ?_⟩⟩
      refine ⟨_, results_tmp2 rfl _ _ _, .inr ?_⟩
      rw [HQ.out]
      exact ⟨hz, rfl, HDD.out, HK8.out⟩

end Go.Proofs.Ytoocifoglhhnmaa
