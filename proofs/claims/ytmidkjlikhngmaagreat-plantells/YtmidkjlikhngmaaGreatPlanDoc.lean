/- The document's answer for plans; what the laws of package plan share. -/
import Derived.Test.YtmidkjlikhngmaaGreatPlanAw
import Derived.Test.YtmidkjlikhngmaaGreatPlanMem
import Derived.Maps.AppendAt
import Derived.RegionTactic
import Derived.BigRegion
import Derived.Deep.DeepCutAuto
import Derived.Deep.CutBlock
import Derived.Test.YtmidkjlikhngmaaGreatPlanB
import Derived.Test.YtmidkjlikhngmaaGreatPlanC
import Derived.Test.YtmidkjlikhngmaaGreatPlanL
import Derived.Test.YtmidkjlikhngmaaGreatRouteRC
import Derived.Deep.RegionHeld3
import Derived.Deep.RegionLaw
import Derived.Test.YtmidkjlikhngmaaGreatPlanD
import Derived.Test.YtmidkjlikhngmaaGreatPlanE
/-! What the laws of package plan share: the list of plans that large is asked about, boxes of plans. -/
namespace Go.Proofs.YtmidkjlikhngmaaGreat
open Go.RowKit
set_option linter.unusedVariables false
set_option maxRecDepth 100000

def pCells (ps : List Pd) : List Value := ps.flatMap fun p => [.slice p.rA p.rm p.rc, .slice p.uA p.um p.uc]
theorem pc_at {l : List Pd} {k : Nat} {p : Pd} (h : l[k]? = some p) : (pCells l)[k * 2]? = some (.slice p.rA p.rm p.rc) ∧ (pCells l)[k * 2 + 1]? = some (.slice p.uA p.um p.uc) := by
  induction l generalizing k with
  | nil => simp at h
  | cons a l ih =>
    cases k with
    | zero => simp at h; subst h; exact ⟨rfl, rfl⟩
    | succ k =>
      have := ih (k := k) (by simpa using h)
      rw [show (k + 1) * 2 = k * 2 + 1 + 1 by omega]
      simpa [pCells] using this
theorem rowsP_box {W : World} {g : Nat} {ps : List Pd} {t : TypeId} (h : Box W g (pCells ps).toArray t) : RowsP W (some ⟨g, 0, none⟩) ps := fun k p hp => by
  obtain ⟨h1, h2⟩ := pc_at hp
  refine ⟨_, rfl, ?_, ?_⟩
  · rw [add_flat, Nat.zero_add]
    exact h.cell _ _ (by simpa using h1)
  · rw [add_flat, Nat.zero_add]
    exact h.cell _ _ (by simpa using h2)
theorem pbox0 {w : World} {b : Nat} {p : Pd} (h : Box w b p.cells 32) : w.cell? ⟨b, 0, none⟩ = some (.slice p.rA p.rm p.rc) := h.cell 0 _ rfl
theorem pbox1 {w : World} {b : Nat} {p : Pd} (h : Box w b p.cells 32) : w.cell? ⟨b, 1, none⟩ = some (.slice p.uA p.um p.uc) := h.cell 1 _ rfl
theorem WorldIn.below {w w' : World} {x : Wd} (h : WorldIn w x) (hb : Below w.heap.size w w') : WorldIn w' x := ⟨h.n, h.dl, h.dx, h.tl, h.tx, h.ml, h.mx, h.kl, h.kx, h.D.below hb, h.T.below hb, h.os.below hb, h.ts.below hb⟩
/-- whether a plan is better, of plans by value -/
def lessP (x : Wd) (a b : Pd) : Bool := Pl.lessB (Pl.checkS x.N x.D x.T x.os x.ts (ros a.rs) a.us) (Pl.checkS x.N x.D x.T x.os x.ts (ros b.rs) b.us) a.um b.um
end Go.Proofs.YtmidkjlikhngmaaGreat

/-! The document's answer for plans: In, Sorted. -/
namespace Pl
/-- where a number goes -/
theorem ins_at {x : Int} {s : List Int} {k : Nat} (h1 : ∀ (j : Nat) (y : Int), j < k → s[j]? = some y → y ≤ x) (h2 : ∀ y, s[k]? = some y → ¬ y ≤ x) (hk : k ≤ s.length) : ins x s = s.take k ++ [x] ++ s.drop k := by
  induction s generalizing k with
  | nil =>
    have : k = 0 := by simpa using hk
    subst this
    rfl
  | cons a r ih =>
    cases k with
    | zero =>
      have := h2 a rfl
      unfold ins
      rw [if_neg this]
      rfl
    | succ k =>
      have := h1 0 a (Nat.succ_pos k) rfl
      unfold ins
      rw [if_pos this, ih (fun j y hj hy => h1 (j + 1) y (Nat.succ_lt_succ hj) (by simpa using hy)) (fun y hy => h2 y (by simpa using hy)) (by simpa using hk)]
      rfl
end Pl
namespace Go.Proofs.YtmidkjlikhngmaaGreat
open Go.RowKit
set_option linter.unusedVariables false
set_option maxRecDepth 100000

theorem has_true {l : List Int} {x : Int} {k : Nat} (h : l[k]? = some x) : l.contains x = true := by simpa using List.mem_of_getElem? h
theorem has_false {l : List Int} {x : Int} (h : ∀ (k : Nat) (y : Int), l[k]? = some y → y ≠ x) : l.contains x = false := by
  refine Bool.eq_false_iff.2 fun hc => ?_
  obtain ⟨j, hj⟩ := List.getElem?_of_mem (show x ∈ l by simpa using hc)
  exact h j x hj rfl

set_option maxHeartbeats 2000000 in
theorem din_b (A : Option Addr) (n c : Nat) (l : List Int) (x : Int) (w : World) (r : Bool) (hr : l.contains x = r) (hn : l.length = n) (hn2 : n ≤ 100000) (h : IntsAt w A l) :
    Calls Tryz.prog 27 #[.slice A n c, .int .i64 x] w fun e w' => e = .returned (.bool r) ∧ w = w' := by
  have HL := Lib.hid h
  have HN := Lib.hid hn
  have HY : Hid (∀ k : Nat, l[k]? = some x → r = true) := fun k h1 => by rw [← hr]; exact has_true h1
  have HR : Hid ((∀ (k : Nat) (y : Int), l[k]? = some y → y ≠ x) → r = false) := fun h => by rw [← hr]; exact has_false h
  clear h hn hr
  go_enter Tryz.func27, Tryz.ntmps27
  go_wp2_with fail
  go_loopg [4, 5] n (fun gk s4 s5 W => ∃ k : Nat, k + gk = n ∧ s4 = .bool false ∧ s5 = .int .i64 k ∧ w = W ∧ Hid (∀ (i : Nat) (y : Int), i < k → l[i]? = some y → y ≠ x))
  case atStart => exact ⟨0, by omega, rfl, rfl, rfl, fun i y hi => by omega⟩
  case round =>
    obtain ⟨k, hkg, rfl, rfl, rfl, HK⟩ := hrel
    by_cases hlt : k < n
    · obtain ⟨gk, rfl⟩ : ∃ j, gk = j + 1 := ⟨gk - 1, by omega⟩
      obtain ⟨y, hy⟩ := mlist_at l k (by rw [HN.out]; exact hlt)
      obtain ⟨ad, rfl, hc0⟩ := HL.out k y hy
      have i2 : (k : Int) < (n : Int) := by omega
      by_cases hxy : y = x
      · have heq : (y == x) = true := beq_iff_eq.2 hxy
        have HF := Lib.hid (HY.out k (by rw [hy, hxy]))
        clear hy hxy
        go_wp2_with fail
        go_ret
        exact ⟨by rw [HF.out]; rfl, rfl⟩
      · have heq : (y == x) = false := beq_eq_false_iff_ne.2 hxy
        have HK2 : Hid (∀ (i : Nat) (u : Int), i < k + 1 → l[i]? = some u → u ≠ x) := fun i u hi hu => by
          by_cases h : i < k
          · exact HK.out i u h hu
          · obtain rfl : i = k := by omega
            rw [hy] at hu
            obtain rfl := Option.some.inj hu
            exact hxy
        clear hy hxy
        go_wp2_with fail
        go_roundg gk
        case measure => omega
        case rel => exact ⟨k + 1, by omega, rfl, by first | rfl | go_num, rfl, HK2.out⟩
    · have HF := Lib.hid (HR.out fun i y h1 => HK.out i y (by have := (List.getElem?_eq_some_iff.1 h1).1; rw [HN.out] at this; omega) h1)
      have hk : k = n := by omega
      subst hk
      go_wp2_with fail
      go_ret
      exact ⟨by rw [HF.out]; rfl, rfl⟩

/-! rows of numbers cut and joined -/
theorem sizeIs (W : World) : (sizeOf (Tryz.prog.elem 30)).run Tryz.prog W = .ok 1 W := by kernel_rfl
theorem front_is (A : Option Addr) (n c k : Nat) (hnc : n ≤ c) (hk : k ≤ n) :
    ∀ W : World, (Instr.slice 30 (.slice A n c) none (some (.int .i64 (k : Int))) none).run Tryz.prog W = .ok (.slice A k c) W := by
  intro W
  rw [run_slice_h W 30 A n c (by kernel_rfl) .i64 _ (by omega) (by omega), sizeIs W]
  simp [sliced, Result.andThen]
  intro _
  cases A <;> rfl
theorem IntsAt.take' {W : World} {A : Option Addr} {l : List Int} (h : IntsAt W A l) (k : Nat) : IntsAt W A (l.take k) := fun j z hz => by
  refine h j z ?_
  by_cases hj : j < k
  · rwa [List.getElem?_take_of_lt hj] at hz
  · rw [List.getElem?_eq_none (by rw [List.length_take]; omega)] at hz; cases hz
theorem IntsAt.drop' {W : World} {ad : Addr} {l : List Int} (h : IntsAt W (some ad) l) (k : Nat) : IntsAt W (some (ad.add k)) (l.drop k) := fun j z hz => by
  rw [List.getElem?_drop] at hz
  obtain ⟨ad', e, c⟩ := h (k + j) z hz
  obtain rfl := Option.some.inj e
  exact ⟨_, rfl, by rw [add_plus]; exact c⟩
theorem back_is (A : Option Addr) (n c k : Nat) (hnc : n ≤ c) (hk : k ≤ n) :
    ∃ A' c', (∀ W : World, (Instr.slice 30 (.slice A n c) (some (.int .i64 (k : Int))) none none).run Tryz.prog W = .ok (.slice A' (n - k) c') W) ∧
      ∀ (W : World) (l : List Int), l.length = n → IntsAt W A l → IntsAt W A' (l.drop k) := by
  refine ⟨if c = k then A else A.map (·.add k), c - k, fun W => ?_, fun W l hl h => ?_⟩
  · rw [run_slice_l W 30 A n c (by kernel_rfl) .i64 _ (by omega) (by omega), sizeIs W]
    simp [sliced, Result.andThen]
  · by_cases e : k = n
    · rw [List.drop_eq_nil_of_le (by omega)]
      exact IntsAt.nil _ _
    · rw [if_neg (by omega)]
      cases A with
      | none =>
        have : l = [] := by
          cases l with
          | nil => rfl
          | cons z l =>
            obtain ⟨ad, h1, _⟩ := h 0 z rfl
            cases h1
        subst this
        simp only [List.drop_nil]
        exact IntsAt.nil _ _
      | some ad => exact h.drop' k
theorem OwnI.lower {W : World} {a b : Nat} {v : Value} {l : List Int} (h : OwnI W b v l) (hab : a ≤ b) : OwnI W a v l := by
  obtain ⟨h1, h2⟩ := h
  refine ⟨h1, ?_⟩
  rcases h2 with h2 | ⟨g, cap, cur, hv, hg, r⟩
  · exact .inl h2
  · exact .inr ⟨g, cap, cur, hv, Nat.le_trans hab hg, r⟩
/-- an append to a row of numbers of one's own, and where that lies -/
theorem owni_app_at {W : World} {base : Nat} {v : Value} {l : List Int} (h : OwnI W base v l) (hb : base ≤ W.heap.size) (A : Option Addr) (m c : Nat) (b : List Int) (hm : b.length = m) (hby : IntsAt W A b) (hs : l.length + m ≤ 100000) (M : Nat) (hM : (l ++ b).length = M) :
    ∃ v' w', (Builtin.append_ #[30, 30] 30 #[v, .slice A m c]).run Tryz.prog W = .ok v' w' ∧ (∃ A' c', v' = .slice A' M c') ∧ Hid (OwnI w' base v' (l ++ b) ∧ Below base W w' ∧ (∀ k, k < W.heap.size → v.ownBlock ≠ some k → w'.heap[k]? = W.heap[k]?) ∧ W.heap.size ≤ w'.heap.size ∧ (v'.ownBlock = v.ownBlock ∨ v'.ownBlock = some W.heap.size)) := by
  obtain ⟨i0, hi0, hz0, hz1, hz2⟩ := info_parts3 int_info
  have hM' : l.length + m = M := by rw [← hM, List.length_append, hm]
  cases A with
  | none =>
    have hl0 : b = [] := by
      cases b with
      | nil => rfl
      | cons z b =>
        obtain ⟨ad, h1, _⟩ := hby 0 z rfl
        cases h1
    subst hl0
    obtain rfl : m = 0 := by simpa using hm.symm
    obtain rfl : l.length = M := by simpa using hM
    rw [List.append_nil]
    obtain ⟨A', c', e, _⟩ := h.ints
    refine ⟨v, W, ?_, ⟨A', c', e⟩, h, Below.refl _ _, fun _ _ _ => rfl, Nat.le_refl _, .inl rfl⟩
    rcases h.2 with ⟨rfl, h0⟩ | ⟨g, cap, cur, rfl, _, _, hnc, _⟩
    · simp [Builtin.append_, run_underlying Tryz.underlying30, sizeOf, typeInfo, hi0, Builtin.lenOf, Builtin.firstCells]
    · simp [Builtin.append_, run_underlying Tryz.underlying30, sizeOf, typeInfo, hi0, Builtin.lenOf, Builtin.firstCells, hnc, storeCells]
  | some ad =>
    obtain ⟨v', w', h1, h2, h3, _, h5⟩ := run_append_own_at (P := Tryz.prog) W base 30 30 3 i0 _ 1 8 Tryz.underlying30 hi0 hz0 hz1 hz2 rfl (by omega) v l.length (l.map (Value.int .i64)) h ad m c (b.map (Value.int .i64)) (by rw [List.length_map, hm, Nat.mul_one])
      (fun j u hu => by
        rw [List.getElem?_map] at hu
        cases hz : b[j]? with
        | none => rw [hz] at hu; cases hu
        | some z =>
          rw [hz] at hu
          obtain rfl := Option.some.inj hu
          obtain ⟨ad', e, hc⟩ := hby j z hz
          obtain rfl := Option.some.inj e
          exact hc) (by intro x hx; obtain ⟨z, _, rfl⟩ := List.mem_map.1 hx; rfl) (by unfold maxLen; omega) (by omega) hb
    have ho : OwnI w' base v' (l ++ b) := by unfold OwnI; rw [List.length_append, hm, List.map_append]; exact h2
    obtain ⟨A', c', e, _⟩ := ho.ints
    rw [hM] at e
    refine ⟨v', w', h1, ⟨A', c', e⟩, ho, ?_, fun k hk hv => h3.block k hk (fun e => hv e.symm), h3.size, h5⟩
    exact ⟨h3.os, h3.tape, h3.output, h3.size, fun k hk => h3.block k (Nat.lt_of_lt_of_le hk hb) (fun e => by have := (h.lt k e.symm).1; omega)⟩

/-- a row while it is joined, beside one number's that waits, or none yet -/
structure J1 (V : World) (xb : Option Nat) (x : Int) (l : List Int) (v : Value) (w : World) : Prop where
  own : OwnI w V.heap.size v l
  bel : Below V.heap.size V w
  box : ∀ g, xb = some g → V.heap.size ≤ g ∧ Box w g #[.int .i64 x] 3 ∧ v.ownBlock ≠ some g
theorem J1.a (V : World) (x : Int) : J1 V none x [] (.slice (some ⟨V.heap.size, 0, none⟩) 0 0) (V.alloc (.cells #[] 3)).drew :=
  ⟨own_none V V.heap.size (Nat.le_refl _), (below_alloc V _).drew, fun g e => by cases e⟩
theorem J1.b (V : World) (x : Int) : J1 V (some (V.heap.size + 1)) x [] (.slice (some ⟨V.heap.size, 0, none⟩) 0 0) ((V.alloc (.cells #[] 3)).alloc (.cells #[.int .i64 x] 3)).drew := by
  refine ⟨(own_none V V.heap.size (Nat.le_refl _)).below (below_alloc _ _).drew, (below_more (below_alloc V _) _).drew, fun g e => ?_⟩
  obtain rfl := Option.some.inj e
  refine ⟨by omega, ?_, by simp [Value.ownBlock]⟩
  rw [size_one V (.cells #[] 3)]
  exact Box.new (V.alloc (.cells #[] 3)) _ _
theorem J1.c (V : World) (x : Int) : J1 V (some V.heap.size) x [] (.slice (some ⟨V.heap.size + 1, 0, none⟩) 0 0) ((V.alloc (.cells #[.int .i64 x] 3)).alloc (.cells #[] 3)).drew := by
  refine ⟨?_, (below_more (below_alloc V _) _).drew, fun g e => ?_⟩
  · rw [size_one V (.cells #[.int .i64 x] 3)]
    exact own_none (V.alloc (.cells #[.int .i64 x] 3)) V.heap.size (below_alloc V _).size
  · obtain rfl := Option.some.inj e
    exact ⟨Nat.le_refl _, (Box.new V _ _).below (below_alloc _ _).drew, by simp [Value.ownBlock]⟩
theorem J1.app {V w : World} {xb : Option Nat} {x : Int} {l : List Int} {v : Value} (h : J1 V xb x l v w) (A : Option Addr) (m c : Nat) (b : List Int) (hm : b.length = m) (hby : IntsAt V A b) (hs : l.length + m ≤ 100000) (M : Nat) (hM : (l ++ b).length = M) :
    ∃ v' w', (Builtin.append_ #[30, 30] 30 #[v, .slice A m c]).run Tryz.prog w = .ok v' w' ∧ ∃ A' c', v' = .slice A' M c' ∧ Hid (J1 V xb x (l ++ b) v' w') := by
  obtain ⟨v', w', h1, ⟨A', c', e⟩, h2⟩ := owni_app_at h.own h.bel.size A m c b hm (hby.below h.bel) hs M hM
  obtain ⟨o1, o2, o3, o4, o5⟩ := h2.out
  refine ⟨v', w', h1, A', c', e, o1, h.bel.trans o2, fun g hg => ?_⟩
  obtain ⟨g1, g2, g3⟩ := h.box g hg
  refine ⟨g1, (o3 g g2.lt g3).trans g2, fun hv => ?_⟩
  rcases o5 with o5 | o5
  · rw [o5] at hv; exact g3 hv
  · rw [o5] at hv
    have := g2.lt
    injection hv with hv
    omega
theorem J1.late {V w : World} {x : Int} {l : List Int} {v : Value} (h : J1 V none x l v w) : J1 V (some w.heap.size) x l v (w.alloc (.cells #[.int .i64 x] 3)) := by
  refine ⟨h.own.below (below_alloc _ _), h.bel.alloc h.bel.size _, fun g e => ?_⟩
  obtain rfl := Option.some.inj e
  refine ⟨h.bel.size, Box.new _ _ _, fun hv => ?_⟩
  have := (h.own.lt _ hv).2
  omega
/-- the number is put behind -/
theorem J1.one {V w : World} {g : Nat} {x : Int} {l : List Int} {v : Value} (h : J1 V (some g) x l v w) (hs : l.length ≤ 50000) (M : Nat) (hM : (l ++ [x]).length = M) :
    ∃ v' w', (Builtin.append_ #[30, 30] 30 #[v, .slice (some ⟨g, 0, none⟩) 1 1]).run Tryz.prog w = .ok v' w' ∧ ∃ A' c', v' = .slice A' M c' ∧ Hid (J1 V none x (l ++ [x]) v' w') := by
  obtain ⟨g1, g2, g3⟩ := h.box g rfl
  have hx : IntsAt w (some ⟨g, 0, none⟩) [x] := fun k z hz => by
    have hk : k = 0 := by have := (List.getElem?_eq_some_iff.1 hz).1; simp at this; exact this
    subst hk
    exact ⟨_, rfl, by rw [Addr.add_mid, Nat.zero_add]; exact g2.cell 0 _ (by simpa using congrArg (Option.map (Value.int .i64)) hz)⟩
  obtain ⟨v', w', h1, ⟨A', c', e⟩, h2⟩ := owni_app_at h.own h.bel.size (some ⟨g, 0, none⟩) 1 1 [x] rfl hx (by omega) M hM
  exact ⟨v', w', h1, A', c', e, h2.out.1, h.bel.trans h2.out.2.1, fun g e => by cases e⟩

set_option maxHeartbeats 8000000 in
theorem dsorted_b (A : Option Addr) (n c : Nat) (l : List Int) (w : World) (hn : l.length = n) (hn2 : n ≤ 20000) (h : IntsAt w A l) :
    Calls Tryz.prog 31 #[.slice A n c] w (NewI w (Pl.srt l)) := by
  have HL := Lib.hid h
  have HN := Lib.hid hn
  have HB0 : Hid (Below w.heap.size w (w.alloc (.cells #[] 3))) := below_alloc _ _
  have HO0 : Hid (OwnI (w.alloc (.cells #[] 3)) w.heap.size (.slice (some ⟨w.heap.size, 0, none⟩) 0 0) []) := own_none w _ (Nat.le_refl _)
  clear h hn
  go_enter Tryz.func31, Tryz.ntmps31
  go_wp2_with fail
  generalize w.alloc (.cells #[] 3) = V at *
  go_loopg [3, 4] n (fun gk s3 s4 W => ∃ (i cc : Nat) (B : Option Addr) (W0 : World), W0 = W ∧ i + gk = n ∧ s3 = .slice B i cc ∧ s4 = .int .i64 i ∧ Hid (Below w.heap.size w W0) ∧ Hid (OwnI W0 w.heap.size (.slice B i cc) (Pl.srt (l.take i))))
  case atStart => exact ⟨0, 0, _, _, rfl, by omega, rfl, rfl, HB0.out, HO0.out⟩
  case round =>
    obtain ⟨i, cc, B, W0, rfl, hig, rfl, rfl, HK, HO⟩ := hrel
    have HLS : Hid ((Pl.srt (l.take i)).length = i) := by unfold Hid; rw [Pl.srt_len, List.length_take, HN.out]; omega
    have HBI : Hid (IntsAt W0 B (Pl.srt (l.take i)) ∧ i ≤ cc ∧ ∀ ad, B = some ad → w.heap.size ≤ ad.block ∧ ad.spot = none) := by
      obtain ⟨A', c', e, h1, _, h2⟩ := HO.out.ints
      rw [HLS.out] at e h1
      injection e with e1 e2 e3
      subst e1 e3
      refine ⟨h2, h1, ?_⟩
      rintro ad rfl
      rcases HO.out.2 with ⟨h0, _⟩ | ⟨g, cap, cur, hv, hg, _⟩
      · cases h0
      · injection hv with hv _ _
        obtain rfl := Option.some.inj hv
        exact ⟨hg, rfl⟩
    by_cases hlt : i < n
    · obtain ⟨go, rfl⟩ : ∃ j, gk = j + 1 := ⟨gk - 1, by omega⟩
      obtain ⟨x, hx⟩ := mlist_at l i (by rw [HN.out]; exact hlt)
      have hxc := (HL.out.below HK.out) i x hx
      have HINS : Hid (Pl.srt (l.take (i + 1)) = Pl.ins x (Pl.srt (l.take i))) := by unfold Hid; rw [List.take_add_one, hx]; exact Pl.srt_snoc _ _
      obtain ⟨ad, HAD, hc0⟩ := hxc
      obtain rfl := HAD
      generalize Pl.srt (l.take i) = s at *
      clear hx
      go_upto_block 2 with fail
      go_cut [5] (fun s5 W => ∃ (k : Nat) (V1 : World), V1 = W ∧ k ≤ i ∧ s5 = .int .i64 k ∧ Hid (Pl.ins x s = s.take k ++ [x] ++ s.drop k) ∧ Hid (Below W0.heap.size W0 V1))
      case first =>
        go_wp2_with fail
        go_loopg [5] i (fun gk s5 W => ∃ (k q : Nat), k + gk = i ∧ s5 = .int .i64 k ∧ W = W0.drewN q ∧ Hid (∀ (j : Nat) (y : Int), j < k → s[j]? = some y → y ≤ x))
        case atStart => exact ⟨0, 0, by omega, rfl, rfl, fun j y hj => by omega⟩
        case round =>
          obtain ⟨k, q, hkg, rfl, rfl, HE⟩ := hrel
          have HW : Hid (∀ m, (W0.drewN q).drewN m = W0.drewN (q + m)) := fun m => by simp
          have HBQ : Hid (∀ m, Below W0.heap.size W0 ((W0.drewN q).drewN m)) := fun m => by rw [HW.out]; exact ⟨rfl, rfl, rfl, Nat.le_refl _, fun _ _ => rfl⟩
          have hx1 : (W0.drewN q).cell? (ad.add i) = some (.int .i64 x) := by simpa using hc0
          have i0 : (i : Int) < (n : Int) := by omega
          by_cases hki : k < i
          · obtain ⟨gi, rfl⟩ : ∃ j, gk = j + 1 := ⟨gk - 1, by omega⟩
            obtain ⟨y, hy⟩ := mlist_at s k (by rw [HLS.out]; exact hki)
            obtain ⟨ad2, HAD2, hd0⟩ := HBI.out.1 k y hy
            have hd1 : (W0.drewN q).cell? (ad2.add k) = some (.int .i64 y) := by simpa using hd0
            have i1 : (k : Int) < (i : Int) := by omega
            have j1 : decide ((k : Int) < (i : Int)) = true := decide_eq_true i1
            have j2 : decide (k < i) = true := decide_eq_true hki
            have HA2 := Lib.hid HAD2
            by_cases hyx : y ≤ x
            · have j3 : decide (y ≤ x) = true := decide_eq_true hyx
              have HE2 : Hid (∀ (j : Nat) (z : Int), j < k + 1 → s[j]? = some z → z ≤ x) := fun j z hj hz => by
                by_cases h : j < k
                · exact HE.out j z h hz
                · obtain rfl : j = k := by omega
                  rw [hy] at hz
                  obtain rfl := Option.some.inj hz
                  exact hyx
              clear hy hd0 hc0 HBI HO HAD2
              obtain rfl := HA2.out
              generalize W0.drewN q = W at *
              go_wp2
              go_quiet (fail)
              go_wp2
              go_roundg gi
              case measure => omega
              case rel => exact ⟨k + 1, _, by omega, by first | rfl | go_num, HW.out _, HE2.out⟩
            · have j3 : decide (y ≤ x) = false := decide_eq_false hyx
              have HS := Lib.hid (Pl.ins_at HE.out (fun z hz => by rw [hy] at hz; obtain rfl := Option.some.inj hz; exact hyx) (by rw [HLS.out]; omega))
              clear hy hd0 hc0 HBI HO HAD2
              obtain rfl := HA2.out
              generalize W0.drewN q = W at *
              go_wp2
              go_quiet (fail)
              go_wp2
              go_meet
              case rel => exact ⟨k, _, rfl, by omega, rfl, HS.out, HBQ.out _⟩
          · obtain rfl : k = i := by omega
            have j1 : decide ((k : Int) < (k : Int)) = false := decide_eq_false (by omega)
            have HS := Lib.hid (Pl.ins_at HE.out (fun z hz => by have := (List.getElem?_eq_some_iff.1 hz).1; rw [HLS.out] at this; omega) (by rw [HLS.out]; exact Nat.le_refl _))
            clear hc0
            generalize W0.drewN q = W at *
            go_wp2
            go_quiet (fail)
            go_wp2
            go_meet
            case rel => exact ⟨k, _, rfl, by omega, rfl, HS.out, HBQ.out _⟩
      case rest =>
        obtain ⟨k, V1, rfl, hki, rfl, HS, HV1⟩ := hcut
        have HB1 := Lib.hid (below_next HK.out HV1.out)
        have HXC : Hid (∀ U, Below V1.heap.size V1 U → U.cell? (ad.add i) = some (.int .i64 x)) := fun U hU => (Below.cell (below_next HV1.out hU) (lt_of_cell hc0)).trans hc0
        have HR := Lib.hid (HBI.out.1.below HV1.out)
        have HGV : Hid (w.heap.size ≤ V1.heap.size) := HB1.out.size
        obtain ⟨X2, c2, hsl2, hrow2⟩ := back_is B i cc k HBI.out.2.1 hki
        have hsl1 := front_is B i cc k HBI.out.2.1 hki
        obtain ⟨m2, hm2⟩ : ∃ m, i - k = m := ⟨_, rfl⟩
        rw [hm2] at hsl2
        have HR1 : Hid (IntsAt V1 B (s.take k)) := HR.out.take' k
        have HR2 : Hid (IntsAt V1 X2 (s.drop k)) := hrow2 V1 s HLS.out HR.out
        have HL1 : Hid ((s.take k).length = k) := by unfold Hid; rw [List.length_take, HLS.out]; omega
        have HL2 : Hid ((s.drop k).length = m2) := by unfold Hid; rw [List.length_drop, HLS.out]; exact hm2
        have HL3 : Hid ((s.take k ++ [x]).length = k + 1) := by unfold Hid; rw [List.length_append, HL1.out]; rfl
        have HL4 : Hid ((s.take k ++ [x] ++ s.drop k).length = i + 1) := by unfold Hid; rw [List.length_append, HL3.out, HL2.out]; omega
        have HI1 : Hid (i ≤ 20000) := by unfold Hid; omega
        have HA1 : Hid (∃ v' w', (Builtin.append_ #[30, 30] 30 #[.slice (some ⟨V1.heap.size, 0, none⟩) 0 0, .slice B k cc]).run Tryz.prog (V1.alloc (.cells #[] 3)).drew = .ok v' w' ∧ ∃ A' c', v' = .slice A' k c' ∧ Hid (J1 V1 none x (s.take k) (.slice A' k c') w')) := by
          obtain ⟨v', w', h1, A', c', e, h2⟩ := (J1.a V1 x).app B k cc (s.take k) HL1.out HR1.out (by simp; omega) k (by simpa using HL1.out)
          subst e
          exact ⟨_, w', h1, A', c', rfl, h2⟩
        have HBB1 : Hid (∃ v' w', (Builtin.append_ #[30, 30] 30 #[.slice (some ⟨V1.heap.size, 0, none⟩) 0 0, .slice B k cc]).run Tryz.prog ((V1.alloc (.cells #[] 3)).alloc (.cells #[.int .i64 x] 3)).drew = .ok v' w' ∧ ∃ A' c', v' = .slice A' k c' ∧ Hid (J1 V1 (some (V1.heap.size + 1)) x (s.take k) (.slice A' k c') w')) := by
          obtain ⟨v', w', h1, A', c', e, h2⟩ := (J1.b V1 x).app B k cc (s.take k) HL1.out HR1.out (by simp; omega) k (by simpa using HL1.out)
          subst e
          exact ⟨_, w', h1, A', c', rfl, h2⟩
        have HC1 : Hid (∃ v' w', (Builtin.append_ #[30, 30] 30 #[.slice (some ⟨V1.heap.size + 1, 0, none⟩) 0 0, .slice B k cc]).run Tryz.prog ((V1.alloc (.cells #[.int .i64 x] 3)).alloc (.cells #[] 3)).drew = .ok v' w' ∧ ∃ A' c', v' = .slice A' k c' ∧ Hid (J1 V1 (some V1.heap.size) x (s.take k) (.slice A' k c') w')) := by
          obtain ⟨v', w', h1, A', c', e, h2⟩ := (J1.c V1 x).app B k cc (s.take k) HL1.out HR1.out (by simp; omega) k (by simpa using HL1.out)
          subst e
          exact ⟨_, w', h1, A', c', rfl, h2⟩
        have HONE : Hid (∀ w g A c, J1 V1 (some g) x (s.take k) (.slice A k c) w → ∃ v' w', (Builtin.append_ #[30, 30] 30 #[.slice A k c, .slice (some ⟨g, 0, none⟩) 1 1]).run Tryz.prog w = .ok v' w' ∧ ∃ A' c', v' = .slice A' (k + 1) c' ∧ Hid (J1 V1 none x (s.take k ++ [x]) (.slice A' (k + 1) c') w')) := fun w g A c h => by
          obtain ⟨v', w', h1, A', c', e, h2⟩ := h.one (by rw [HL1.out]; have := HI1.out; omega) (k + 1) HL3.out
          subst e
          exact ⟨_, w', h1, A', c', rfl, h2⟩
        have HTHR : Hid (∀ w A c, J1 V1 none x (s.take k ++ [x]) (.slice A (k + 1) c) w → ∃ v' w', (Builtin.append_ #[30, 30] 30 #[.slice A (k + 1) c, .slice X2 m2 c2]).run Tryz.prog w = .ok v' w' ∧ ∃ A' c', v' = .slice A' (i + 1) c' ∧ Hid (J1 V1 none x (s.take k ++ [x] ++ s.drop k) (.slice A' (i + 1) c') w')) := fun w A c h => by
          obtain ⟨v', w', h1, A', c', e, h2⟩ := h.app X2 m2 c2 (s.drop k) HL2.out HR2.out (by rw [HL3.out]; have := HI1.out; omega) (i + 1) HL4.out
          subst e
          exact ⟨_, w', h1, A', c', rfl, h2⟩
        have y0 := HXC.out V1 (Below.refl _ _)
        have ya := HXC.out (V1.alloc (.cells #[] 3)) (below_alloc _ _)
        clear hc0 hrow2 hm2
        go_upto_region 8 with fail
        go_region_law (first
          | (refine step_append_w w6 (by with_reducible rfl) (by rfl) (.tmp 40) (.tmp 43) 30 30 30 (by rfl) (by rfl) (.slice A6 (k + 1) c6) (.slice X2 m2 c2) (by rfl) (by rfl) _ HT3.out ?_
             rintro v3 w7 ⟨A7, c7, rfl, HF⟩)
          | (refine step_append_w (w5.alloc (.cells #[.int .i64 x] 3)) (by with_reducible rfl) (by rfl) (.tmp 34) (.tmp 39) 30 30 30 (by rfl) (by rfl) (.slice A5 k c5) (.slice (some ⟨w5.heap.size, 0, none⟩) 1 1) (by rfl) (by rfl) _ HA2.out ?_
             rintro v2 w6 ⟨A6, c6, rfl, HF2⟩
             have HT3 := Lib.hid (HTHR.out _ _ _ HF2.out))
          | (refine step_append_w w5 (by with_reducible rfl) (by rfl) (.tmp 34) (.tmp 39) 30 30 30 (by rfl) (by rfl) (.slice A5 k c5) (.slice (some ⟨V1.heap.size + 1, 0, none⟩) 1 1) (by rfl) (by rfl) _ HBB2.out ?_
             rintro v2 w6 ⟨A6, c6, rfl, HF2⟩
             have HT3 := Lib.hid (HTHR.out _ _ _ HF2.out))
          | (refine step_append_w w5 (by with_reducible rfl) (by rfl) (.tmp 34) (.tmp 39) 30 30 30 (by rfl) (by rfl) (.slice A5 k c5) (.slice (some ⟨V1.heap.size, 0, none⟩) 1 1) (by rfl) (by rfl) _ HC2.out ?_
             rintro v2 w6 ⟨A6, c6, rfl, HF2⟩
             have HT3 := Lib.hid (HTHR.out _ _ _ HF2.out))
          | (refine step_append_w ((V1.alloc (.cells #[] 3)).drew) (by with_reducible rfl) (by rfl) (.tmp 30) (.tmp 33) 30 30 30 (by rfl) (by rfl) (.slice (some ⟨V1.heap.size, 0, none⟩) 0 0) (.slice B k cc) (by rfl) (by rfl) _ HA1.out ?_
             rintro v1 w5 ⟨A5, c5, rfl, HF1⟩
             have HA2 := Lib.hid (HONE.out _ _ _ _ HF1.out.late)
             have y5 := HXC.out w5 HF1.out.bel)
          | (refine step_append_w (((V1.alloc (.cells #[] 3)).alloc (.cells #[.int .i64 x] 3)).drew) (by with_reducible rfl) (by rfl) (.tmp 30) (.tmp 33) 30 30 30 (by rfl) (by rfl) (.slice (some ⟨V1.heap.size, 0, none⟩) 0 0) (.slice B k cc) (by rfl) (by rfl) _ HBB1.out ?_
             rintro v1 w5 ⟨A5, c5, rfl, HF1⟩
             have HBB2 := Lib.hid (HONE.out _ _ _ _ HF1.out))
          | (refine step_append_w (((V1.alloc (.cells #[.int .i64 x] 3)).alloc (.cells #[] 3)).drew) (by with_reducible rfl) (by rfl) (.tmp 30) (.tmp 33) 30 30 30 (by rfl) (by rfl) (.slice (some ⟨V1.heap.size + 1, 0, none⟩) 0 0) (.slice B k cc) (by rfl) (by rfl) _ HC1.out ?_
             rintro v1 w5 ⟨A5, c5, rfl, HF1⟩
             have HC2 := Lib.hid (HONE.out _ _ _ _ HF1.out)))
        all_goals
          clear y0 ya hsl1 hsl2
          go_wp2
          go_roundg go
          case measure => omega
          case rel => exact ⟨i + 1, c7, A7, _, rfl, by omega, rfl, by first | rfl | go_num, below_next HB1.out HF.out.bel, by rw [HINS.out, HS.out]; exact HF.out.own.lower HGV.out⟩
    · obtain rfl : i = n := by omega
      have HALL : Hid (l.take i = l) := by unfold Hid; rw [List.take_of_length_le (by rw [HN.out]; exact Nat.le_refl _)]
      go_wp2_with fail
      go_ret
      rw [HALL.out] at HBI HLS
      exact ⟨B, cc, by rw [HLS.out]; rfl, by rw [HLS.out]; exact HBI.out.2.1, HK.out, HBI.out.1, HBI.out.2.2⟩
end Go.Proofs.YtmidkjlikhngmaaGreat

/-! The document's answer for plans: Served, Rest. -/
namespace Go.Proofs.YtmidkjlikhngmaaGreat
open Go.RowKit
set_option linter.unusedVariables false
set_option maxRecDepth 100000

/-- a plan's box, and a row that grows -/
theorem box_below {w : World} {o : Obj} : Hid (OwnI ((w.alloc o).alloc (.cells #[] 3)) (w.heap.size + 1) (.slice (some ⟨w.heap.size + 1, 0, none⟩) 0 0) []) := by
  rw [size_one w o]
  exact own_none _ _ (Nat.le_refl _)

set_option maxHeartbeats 4000000 in
theorem dserved_b (p : Pd) (w : World) (hp : PAt w p) :
    Calls Tryz.prog 11 #[.agg #[.slice p.rA p.rm p.rc, .slice p.uA p.um p.uc]] w (NewI w (Pl.servedS (ros p.rs))) := by
  have HP := Lib.hid hp
  have HX : Hid (Box ((w.alloc (.cells #[.slice p.rA p.rm p.rc, .slice p.uA p.um p.uc] 32)).alloc (.cells #[] 3)) w.heap.size p.cells 32) := (Box.new w _ _).below (below_alloc _ _)
  have HB0 : Hid (Below w.heap.size w ((w.alloc (.cells #[.slice p.rA p.rm p.rc, .slice p.uA p.um p.uc] 32)).alloc (.cells #[] 3))) := below_more (below_alloc _ _) _
  have HG : Hid (w.heap.size ≤ w.heap.size + 1) := by unfold Hid; omega
  have HGW : Hid (w.heap.size + 1 ≤ ((w.alloc (.cells #[.slice p.rA p.rm p.rc, .slice p.uA p.um p.uc] 32)).alloc (.cells #[] 3)).heap.size) := by unfold Hid; simp
  have HO0 : Hid (OwnI ((w.alloc (.cells #[.slice p.rA p.rm p.rc, .slice p.uA p.um p.uc] 32)).alloc (.cells #[] 3)) (w.heap.size + 1) (.slice (some ⟨w.heap.size + 1, 0, none⟩) 0 0) []) := box_below
  have hrm := hp.r2
  clear hp
  go_enter Tryz.func11, Tryz.ntmps11
  go_wp2_with fail
  generalize (w.alloc (.cells #[.slice p.rA p.rm p.rc, .slice p.uA p.um p.uc] 32)).alloc (.cells #[] 3) = V at *
  obtain ⟨g, hg⟩ : ∃ g, w.heap.size + 1 = g := ⟨_, rfl⟩
  rw [hg] at HGW HO0 HG ⊢
  have HGE : Hid (w.heap.size + 1 ≤ g) := by rw [← hg]; exact Nat.le_refl _
  clear hg
  go_loopg [3, 4] p.rm (fun gk s3 s4 W => ∃ (k m c : Nat) (A : Option Addr) (W0 : World), W0 = W ∧ k + gk = p.rm ∧ s3 = .slice A m c ∧ s4 = .int .i64 k ∧ Hid (Below w.heap.size w W0 ∧ g ≤ W0.heap.size) ∧ Hid (OwnI W0 g (.slice A m c) (Pl.stops ((ros p.rs).take k))) ∧ Hid (Below g V W0))
  case atStart => exact ⟨0, 0, 0, _, _, rfl, by omega, rfl, rfl, ⟨HB0.out, HGW.out⟩, HO0.out, Below.refl _ _⟩
  case round =>
    obtain ⟨k, m, c, A, W0, rfl, hkg, rfl, rfl, HK, HO, HV⟩ := hrel
    have HXW : Hid (Box W0 w.heap.size p.cells 32) := HX.out.old HV.out (Nat.lt_of_lt_of_le (Nat.lt_succ_self _) HGE.out)
    have x0 : W0.cell? ⟨w.heap.size, 0, none⟩ = some (.slice p.rA p.rm p.rc) := HXW.out.cell 0 _ rfl
    by_cases hlt : k < p.rm
    · obtain ⟨gk, rfl⟩ : ∃ j, gk = j + 1 := ⟨gk - 1, by omega⟩
      obtain ⟨r, hr⟩ := mlist_at p.rs k (by rw [HP.out.rl]; exact hlt)
      obtain ⟨ad, hrA, hc, hra⟩ := (HP.out.below HK.out.1).at_ hr
      obtain ⟨c0, c1⟩ := hc
      have i2 : (k : Int) < (p.rm : Int) := by omega
      have HST := Lib.hid (Pl.stops_take (ros_at hr))
      have hle := Pl.stops_le (ros p.rs) (k + 1)
      have htot := HP.out.tot
      obtain ⟨M, hM⟩ : ∃ M, (Pl.stops ((ros p.rs).take k) ++ r.ro.st).length = M := ⟨_, rfl⟩
      have HA := Lib.hid (owni_next HK.out.1 HG.out HK.out.2 HO.out r.sA r.sm r.sc r.st hra.sl hra.st (by
        have e : (Pl.stops ((ros p.rs).take (k + 1))).length = (Pl.stops ((ros p.rs).take k)).length + r.sm := by rw [HST.out, List.length_append]; rw [← hra.sl]; rfl
        omega) M hM)
      have HRA := Lib.hid hrA
      clear hr hM hra hle htot hrA
      generalize p.rA = rA at *
      obtain rfl := HRA.out
      go_wp2_with (at_builtin; refine wpList_append_any rfl (.tmp 13) (.tmp 19) 30 30 rfl _ _ rfl rfl _ HA.out ?_; intro v2 w2 hap; obtain ⟨A2, c2, rfl, HAP⟩ := hap)
      go_roundg gk
      case measure => omega
      case rel => exact ⟨k + 1, M, c2, A2, _, rfl, by omega, rfl, by first | rfl | go_num, ⟨HAP.out.2.1, HAP.out.2.2.1⟩, by rw [HST.out]; exact HAP.out.1, HV.out.trans HAP.out.2.2.2⟩
    · have HALL : Hid ((ros p.rs).take k = ros p.rs) := List.take_of_length_le (by rw [ros_len, HP.out.rl]; omega)
      have hm : m ≤ 20000 ∧ (Pl.stops ((ros p.rs).take k)).length = m ∧ IntsAt W0 A (Pl.stops ((ros p.rs).take k)) := by
        obtain ⟨A', c', e, _, _, hI⟩ := HO.out.ints
        injection e with e1 e2 _
        subst e1
        have := Pl.stops_le (ros p.rs) k
        have := HP.out.tot
        exact ⟨by omega, e2.symm, hI⟩
      have HC := Lib.hid (dsorted_b A m c _ W0 hm.2.1 hm.1 hm.2.2)
      clear hm
      go_wp2_with fail
      with_reducible refine HC.out.mono ?_
      rintro e w2 ⟨A2, c2, rfl, hc2, h2⟩
      have HN := Lib.hid (NewI.old (w := w) ⟨A2, c2, rfl, hc2, h2⟩ HK.out.1)
      clear h2 hc2
      go_wp2
      go_ret
      rw [← (show Pl.srt (Pl.stops ((ros p.rs).take k)) = Pl.servedS (ros p.rs) by rw [HALL.out]; rfl)]
      exact HN.out

set_option maxHeartbeats 4000000 in
theorem drest_b (x : Wd) (p : Pd) (w : World) (hx : WAt w x) (hp : PAt w p) :
    Calls Tryz.prog 13 #[.agg #[.int .i64 x.N, .slice x.dA x.dm x.dc, .slice x.tA x.tm x.tc, .slice x.A x.m x.c, .slice x.B x.k x.d], .agg #[.slice p.rA p.rm p.rc, .slice p.uA p.um p.uc]] w (NewI w (Pl.restS x.os (ros p.rs))) := by
  have HX := Lib.hid (WPB.new hx hp)
  have HB0 : Hid (Below w.heap.size w ((w.alloc (.cells #[.int .i64 x.N, .slice x.dA x.dm x.dc, .slice x.tA x.tm x.tc, .slice x.A x.m x.c, .slice x.B x.k x.d] 28)).alloc (.cells #[.slice p.rA p.rm p.rc, .slice p.uA p.um p.uc] 32))) := below_more (below_alloc _ _) _
  have hxm := hx.m2
  have HXM := Lib.hid hx.ml
  have HTOT : Hid ((Pl.servedS (ros p.rs)).length ≤ 10000) := by unfold Hid Pl.servedS; rw [Pl.srt_len]; exact hp.tot
  clear hp hx
  go_enter Tryz.func13, Tryz.ntmps13
  have x0 := HX.out.p.c0
  have x1 := HX.out.p.c1
  go_wp2_with fail
  generalize (w.alloc (.cells #[.int .i64 x.N, .slice x.dA x.dm x.dc, .slice x.tA x.tm x.tc, .slice x.A x.m x.c, .slice x.B x.k x.d] 28)).alloc (.cells #[.slice p.rA p.rm p.rc, .slice p.uA p.um p.uc] 32) = V at *
  generalize w.heap.size + 1 = b2 at *
  generalize hb1 : w.heap.size = b1 at HX ⊢
  clear hb1
  have HC := Lib.hid (dserved_b p V HX.out.p.at_)
  with_reducible refine HC.out.mono ?_
  rintro e V2 ⟨As, cs, rfl, hcs, hs⟩
  clear x0 x1 HC hcs
  have HB2 := Lib.hid (below_next HB0.out hs.out.1)
  have HX2 := Lib.hid (HX.out.below hs.out.1)
  have HS := Lib.hid hs.out.2.1
  clear hs HX HB0
  obtain ⟨sv, hsv⟩ : ∃ s, Pl.servedS (ros p.rs) = s := ⟨_, rfl⟩
  have HSV := Lib.hid hsv
  rw [hsv] at HS HTOT ⊢
  clear hsv
  obtain ⟨ns, hns⟩ : ∃ n, sv.length = n := ⟨_, rfl⟩
  have HNS := Lib.hid hns
  rw [hns] at HTOT ⊢
  clear hns
  have HV3 : Hid (Below V2.heap.size V2 (V2.alloc (.cells #[] 3)) ∧ V2.heap.size ≤ (V2.alloc (.cells #[] 3)).heap.size) := ⟨below_alloc _ _, (below_alloc V2 _).size⟩
  have HO0 : Hid (OwnI (V2.alloc (.cells #[] 3)) V2.heap.size (.slice (some ⟨V2.heap.size, 0, none⟩) 0 0) []) := own_none V2 _ (Nat.le_refl _)
  go_wp2_with fail
  generalize V2.alloc (.cells #[] 3) = V3 at *
  go_loopg [6, 7] x.m (fun gk s6 s7 W => ∃ (k m c : Nat) (A : Option Addr) (W0 : World), W0 = W ∧ k + gk = x.m ∧ s6 = .slice A m c ∧ s7 = .int .i64 k ∧ Hid (Below V2.heap.size V2 W0 ∧ V2.heap.size ≤ W0.heap.size) ∧ Hid (OwnI W0 V2.heap.size (.slice A m c) (Pl.restL (x.os.take k) (ros p.rs))))
  case atStart => exact ⟨0, 0, 0, _, _, rfl, by omega, rfl, rfl, HV3.out, HO0.out⟩
  case round =>
    obtain ⟨k, m, c, A, W0, rfl, hkg, rfl, rfl, HK, HO⟩ := hrel
    have HX0 := Lib.hid (HX2.out.below HK.out.1)
    have x3 := HX0.out.w.c3
    by_cases hlt : k < x.m
    · obtain ⟨gk, rfl⟩ : ∃ j, gk = j + 1 := ⟨gk - 1, by omega⟩
      obtain ⟨o, ho⟩ := mlist_at x.os k (by rw [HXM.out]; exact hlt)
      obtain ⟨ad, hA, hc⟩ := HX0.out.w.at_.os.at_ ho
      have c0 := hc.c0
      obtain ⟨a0, a1, a2, a3, a4, a5, a6, a7⟩ := o
      simp only at c0
      have i2 : (k : Int) < (x.m : Int) := by omega
      have HOK := Lib.hid ho
      obtain ⟨r, hr⟩ : ∃ r, sv.contains a0 = r := ⟨_, rfl⟩
      have HR := Lib.hid hr
      have HC := Lib.hid (din_b As ns cs sv a0 W0 r hr HNS.out (by have := HTOT.out; omega) (HS.out.below HK.out.1))
      have HRA := Lib.hid hA
      clear ho hA hr hc
      cases r with
      | true =>
        have HNX : Hid (Pl.restL (x.os.take (k + 1)) (ros p.rs) = Pl.restL (x.os.take k) (ros p.rs)) := Pl.restL_take_out HOK.out (by rw [HSV.out]; unfold Pl.outB; exact congrArg Bool.not HR.out)
        generalize x.A = oA at *
        obtain rfl := HRA.out
        go_wp2_with fail
        with_reducible refine HC.out.mono ?_
        rintro e w2 ⟨rfl, rfl⟩
        go_wp2
        go_roundg gk
        case measure => omega
        case rel => exact ⟨k + 1, m, c, A, _, rfl, by omega, rfl, by first | rfl | go_num, HK.out, by rw [HNX.out]; exact HO.out⟩
      | false =>
        have HNX : Hid (Pl.restL (x.os.take (k + 1)) (ros p.rs) = Pl.restL (x.os.take k) (ros p.rs) ++ [a0]) := Pl.restL_take_in HOK.out (by rw [HSV.out]; unfold Pl.outB; exact congrArg Bool.not HR.out)
        have HB4 := Lib.hid (below_more HK.out.1 (.cells #[.int .i64 a0] 3))
        have HO4 := Lib.hid (HO.out.below (below_alloc W0 (.cells #[.int .i64 a0] 3)))
        have HG4 : Hid (V2.heap.size ≤ (W0.alloc (.cells #[.int .i64 a0] 3)).heap.size) := Nat.le_trans HK.out.2 (below_alloc W0 _).size
        obtain ⟨M, hM⟩ : ∃ M, (Pl.restL (x.os.take k) (ros p.rs) ++ [a0]).length = M := ⟨_, rfl⟩
        have HA := Lib.hid (owni_next (w := V2) HB4.out (Nat.le_refl _) HG4.out HO4.out (some ⟨W0.heap.size, 0, none⟩) 1 1 [a0] rfl (one_int W0 a0) (by have := Pl.restL_len (x.os.take k) (ros p.rs); have h3 : (x.os.take k).length ≤ x.os.length := List.length_take_le' _ _; rw [HXM.out] at h3; omega) M hM)
        clear hM
        generalize x.A = oA at *
        obtain rfl := HRA.out
        go_wp2_with fail
        with_reducible refine HC.out.mono ?_
        rintro e w2 ⟨rfl, rfl⟩
        go_wp2_with (at_builtin; refine wpList_append_any rfl (.tmp 27) (.tmp 34) 30 30 rfl _ _ rfl rfl _ HA.out ?_; intro v5 w5 hap; obtain ⟨A5, c5, rfl, HAP⟩ := hap)
        go_roundg gk
        case measure => omega
        case rel => exact ⟨k + 1, M, c5, A5, _, rfl, by omega, rfl, by first | rfl | go_num, ⟨HAP.out.2.1, HAP.out.2.2.1⟩, by rw [HNX.out]; exact HAP.out.1⟩
    · have HALL : Hid (x.os.take k = x.os) := List.take_of_length_le (by rw [HXM.out]; omega)
      have hm : m ≤ 20000 ∧ (Pl.restL (x.os.take k) (ros p.rs)).length = m ∧ IntsAt W0 A (Pl.restL (x.os.take k) (ros p.rs)) := by
        obtain ⟨A', c', e, _, _, hI⟩ := HO.out.ints
        injection e with e1 e2 _
        subst e1
        have := Pl.restL_len (x.os.take k) (ros p.rs)
        have h3 : (x.os.take k).length ≤ x.os.length := List.length_take_le' _ _
        rw [HXM.out] at h3
        exact ⟨by omega, e2.symm, hI⟩
      have HC := Lib.hid (dsorted_b A m c _ W0 hm.2.1 hm.1 hm.2.2)
      clear hm
      go_wp2_with fail
      with_reducible refine HC.out.mono ?_
      rintro e w2 ⟨A2, c2, rfl, hc2, h2⟩
      have HN := Lib.hid (NewI.old (w := w) ⟨A2, c2, rfl, hc2, h2⟩ (below_next HB2.out HK.out.1))
      clear h2 hc2
      go_wp2
      go_ret
      rw [← (show Pl.srt (Pl.restL (x.os.take k) (ros p.rs)) = Pl.restS x.os (ros p.rs) by rw [HALL.out]; rfl)]
      exact HN.out
end Go.Proofs.YtmidkjlikhngmaaGreat

/-! The document's answer for plans: Check. -/
namespace Pl
theorem tw_next {l : List Int} {k : Nat} {x : Int} (h : l[k]? = some x) : Ld.twB (l.take (k + 1)) = (Ld.twB (l.take k) || (l.take k).contains x) := by
  have e : l.take (k + 1) = l.take k ++ [x] := by rw [List.take_add_one, h]; rfl
  rw [e]
  generalize l.take k = a
  have hn : (a ++ [x]).Nodup ↔ a.Nodup ∧ x ∉ a := by
    rw [(List.perm_append_comm (l₁ := a) (l₂ := [x])).nodup_iff]
    show (x :: a).Nodup ↔ _
    rw [List.nodup_cons]
    exact and_comm
  unfold Ld.twB
  by_cases h1 : a.Nodup <;> by_cases h2 : x ∈ a <;> simp [hn, h1, h2]
theorem dup_next {l : List Int} {k : Nat} {x y : Int} (h1 : l[k]? = some x) (h2 : l[k + 1]? = some y) : dupB (l.take (k + 2)) = (dupB (l.take (k + 1)) || (y == x)) := by
  induction l generalizing k with
  | nil => simp at h1
  | cons a r ih =>
    cases r with
    | nil => simp at h2
    | cons b r =>
      cases k with
      | zero =>
        simp at h1 h2
        subst h1 h2
        show ((a == b) || dupB [b]) = (dupB [a] || (b == a))
        rw [dup_one, dup_one, Bool.or_false, Bool.false_or, Bool.beq_comm]
      | succ k =>
        have := ih (k := k) (by simpa using h1) (by simpa using h2)
        show ((a == b) || dupB ((b :: r).take (k + 2))) = (((a == b) || dupB ((b :: r).take (k + 1))) || (y == x))
        rw [this, Bool.or_assoc]
theorem dup_one' (l : List Int) : dupB (l.take 1) = false := by
  cases l with
  | nil => rfl
  | cons a r => rfl
theorem costs_next (f : Ro → Rt.R) {rs : List Ro} {k : Nat} {r : Ro} (h : rs[k]? = some r) : (costs f (rs.take (k + 1))).sum = (costs f (rs.take k)).sum + (f r).cost := by
  unfold costs
  rw [List.take_add_one, h, List.map_append, List.sum_append]
  simp
theorem trs_at {rs : List Ro} {k : Nat} {r : Ro} (h : rs[k]? = some r) : (trs rs)[k]? = some r.tr := by unfold trs; rw [List.getElem?_map, h]; rfl
end Pl
namespace Go.Proofs.YtmidkjlikhngmaaGreat
open Go.RowKit
set_option linter.unusedVariables false
set_option maxRecDepth 100000

def DTBox (V : World) (r : Rt.R) (n : Nat) (s : Value) (W : World) : Prop := ∃ q A c, s = .pointer (some ⟨q, 0, none⟩) ∧ Hid (Box W q #[.slice A n c, .int .i64 r.back, .int .i64 r.dist, .int .i64 r.cost] 60 ∧ Below V.heap.size V W)
theorem dtbox_new {V w : World} {r : Rt.R} {n : Nat} {A : Option Addr} {c : Nat} (hb : Below V.heap.size V w) :
    DTBox V r n (.pointer (some ⟨w.heap.size, 0, none⟩)) (w.alloc (.cells #[.slice A n c, .int .i64 r.back, .int .i64 r.dist, .int .i64 r.cost] 60)) :=
  ⟨_, A, c, rfl, Box.new _ _ _, below_more hb _⟩
theorem dtbox_set {V w : World} {r : Rt.R} {n : Nat} {A : Option Addr} {c : Nat} (hU : Below (V.alloc (.cells #[.slice none 0 0, .int .i64 0, .int .i64 0, .int .i64 0] 60)).drew.heap.size (V.alloc (.cells #[.slice none 0 0, .int .i64 0, .int .i64 0, .int .i64 0] 60)).drew w) :
    DTBox V r n (.pointer (some ⟨V.heap.size, 0, none⟩)) ((((w.setCell ⟨V.heap.size, 0, none⟩ (.slice A n c)).setCell ⟨V.heap.size, 1, none⟩ (.int .i64 r.back)).setCell ⟨V.heap.size, 2, none⟩ (.int .i64 r.dist)).setCell ⟨V.heap.size, 3, none⟩ (.int .i64 r.cost)) := by
  have hbx : Box (V.alloc (.cells #[.slice none 0 0, .int .i64 0, .int .i64 0, .int .i64 0] 60)).drew V.heap.size #[.slice none 0 0, .int .i64 0, .int .i64 0, .int .i64 0] 60 := Box.new V _ _
  exact ⟨_, A, c, rfl, dtrip_set (hbx.below hU) _ _ _ _, below_set4 (below_next (below_alloc V (.cells #[.slice none 0 0, .int .i64 0, .int .i64 0, .int .i64 0] 60)).drew hU) _ (Nat.le_refl _) _ _ _ _⟩

set_option maxHeartbeats 20000000 in
theorem dcheck_b (x : Wd) (p : Pd) (w : World) (c : Int × Int) (hc : Pl.checkS x.N x.D x.T x.os x.ts (ros p.rs) p.us = c) (hx : WAt w x) (hp : PAt w p) :
    Calls Tryz.prog 7 #[.agg #[.int .i64 x.N, .slice x.dA x.dm x.dc, .slice x.tA x.tm x.tc, .slice x.A x.m x.c, .slice x.B x.k x.d], .agg #[.slice p.rA p.rm p.rc, .slice p.uA p.um p.uc]] w (CheckPost w c) := by
  have HX := Lib.hid (WPB.new hx hp)
  have HB0 : Hid (Below w.heap.size w ((w.alloc (.cells #[.int .i64 x.N, .slice x.dA x.dm x.dc, .slice x.tA x.tm x.tc, .slice x.A x.m x.c, .slice x.B x.k x.d] 28)).alloc (.cells #[.slice p.rA p.rm p.rc, .slice p.uA p.um p.uc] 32))) := below_more (below_alloc _ _) _
  have HCK := Lib.hid hc
  have HRL : Hid ((ros p.rs).length = p.rm) := by unfold Hid; rw [ros_len]; exact hp.rl
  have hrm := hp.r2
  clear hx hp hc
  obtain ⟨f, hf⟩ : ∃ f, Rt.worldE x.N x.D x.T x.os x.ts = f := ⟨_, rfl⟩
  have HF := Lib.hid hf
  go_enter Tryz.func7, Tryz.ntmps7
  have x0 := HX.out.w.c0
  have x1 := HX.out.w.c1
  have x2 := HX.out.w.c2
  have x3 := HX.out.w.c3
  have x4 := HX.out.w.c4
  go_wp2_with fail
  clear x0 x1 x2 x3 x4
  generalize ((w.alloc (.cells #[.int .i64 x.N, .slice x.dA x.dm x.dc, .slice x.tA x.tm x.tc, .slice x.A x.m x.c, .slice x.B x.k x.d] 28)).alloc (.cells #[.slice p.rA p.rm p.rc, .slice p.uA p.um p.uc] 32)) = V at *
  generalize w.heap.size + 1 = b2 at *
  generalize hb1 : w.heap.size = b1 at HX ⊢
  clear hb1
  have HC := Lib.hid (dworld_b x V f hf HX.out.w.at_)
  clear hf
  with_reducible refine HC.out.mono ?_
  rintro e V1 ⟨rfl, hV1⟩
  have HX1 := Lib.hid (HX.out.below hV1.out)
  have HB1 := Lib.hid (below_next HB0.out hV1.out)
  clear HC HX HB0 hV1
  by_cases hf0 : f = 0
  · subst hf0
    have e1 : ((0 : Int) != (0 : Int)) = false := by decide
    have y0 := HX1.out.p.c0
    by_cases hl6 : 6 < p.rm
    · have d6 : decide ((6 : Int) < (p.rm : Int)) = true := decide_eq_true (by omega)
      have HE : Hid (c = (0, 4)) := by rw [← HCK.out]; exact Pl.ck_full HF.out (by rw [HRL.out]; exact hl6)
      clear hl6
      go_wp2_with fail
      go_ret2
      exact CheckPost.mk HE.out HB1.out
    · have d6 : decide ((6 : Int) < (p.rm : Int)) = false := decide_eq_false (by omega)
      have HL6 : Hid (¬ 6 < (ros p.rs).length) := by unfold Hid; rw [HRL.out]; exact hl6
      have hl7 : p.rm ≤ 6 := by omega
      clear hl6
      have HV3 : Hid (Below V1.heap.size V1 (V1.alloc (.cells #[] 3)) ∧ V1.heap.size ≤ (V1.alloc (.cells #[] 3)).heap.size) := ⟨below_alloc _ _, (below_alloc V1 _).size⟩
      have HO0 : Hid (OwnI (V1.alloc (.cells #[] 3)) V1.heap.size (.slice (some ⟨V1.heap.size, 0, none⟩) 0 0) []) := own_none V1 _ (Nat.le_refl _)
      go_wp2_with fail
      clear y0
      generalize V1.alloc (.cells #[] 3) = V3 at *
      go_loopg [4, 5, 7, 8, 9, 10] p.rm (fun gk s4 s5 s7 s8 s9 s10 W => ∃ (k cc : Nat) (S : Int) (u : Bool) (A : Option Addr) (W0 : World), W0 = W ∧ k + gk = p.rm ∧ s4 = .int .i64 0 ∧ s5 = .int .i64 0 ∧ s7 = .int .i64 S ∧ s8 = .slice A k cc ∧ s9 = .bool u ∧ s10 = .int .i64 k ∧ 0 ≤ S ∧ S ≤ 20000000000 * (k : Int) ∧ Hid (S = (Pl.costs (Pl.run x.N x.D x.T x.os x.ts) ((ros p.rs).take k)).sum) ∧ Hid (u = Ld.twB ((Pl.trs (ros p.rs)).take k)) ∧ Hid (Below V1.heap.size V1 W0 ∧ V1.heap.size ≤ W0.heap.size) ∧ Hid (OwnI W0 V1.heap.size (.slice A k cc) ((Pl.trs (ros p.rs)).take k)) ∧ Hid (∀ (j : Nat) (s : Pl.Ro), j < k → (ros p.rs)[j]? = some s → (Pl.run x.N x.D x.T x.os x.ts s).e = 0))
      case atStart => exact ⟨0, 0, 0, false, _, _, rfl, by omega, rfl, rfl, rfl, rfl, rfl, rfl, by omega, by omega, rfl, rfl, HV3.out, HO0.out, fun j s hj => by omega⟩
      case round =>
        obtain ⟨k, cc, S, u, A, W0, rfl, hkg, rfl, rfl, rfl, rfl, rfl, rfl, hS0, hS1, HSUM, HU, HK, HO, HE⟩ := hrel
        have HX0 := Lib.hid (HX1.out.below HK.out.1)
        by_cases hlt : k < p.rm
        · obtain ⟨gk, rfl⟩ : ∃ j, gk = j + 1 := ⟨gk - 1, by omega⟩
          obtain ⟨r, hr⟩ := mlist_at p.rs k (by rw [HX0.out.p.at_.rl]; exact hlt)
          obtain ⟨ad, hrA, hc, hra⟩ := HX0.out.p.at_.at_ hr
          have i2 : (k : Int) < (p.rm : Int) := by omega
          have HRK := Lib.hid (ros_at hr)
          have HRP := Lib.hid hr
          have HPA := Lib.hid hrA
          have HRAV := Lib.hid hra
          obtain ⟨res, hres⟩ : ∃ z, Pl.run x.N x.D x.T x.os x.ts r.ro = z := ⟨_, rfl⟩
          have HRES := Lib.hid hres
          obtain ⟨n2, hn2⟩ : ∃ n, res.vs.length = n := ⟨_, rfl⟩
          have HC : Hid (∀ U : World, Below W0.heap.size W0 U → Calls Tryz.prog 26 #[.agg #[.int .i64 x.N, .slice x.dA x.dm x.dc, .slice x.tA x.tm x.tc, .slice x.A x.m x.c, .slice x.B x.k x.d], .agg #[.int .i64 r.tr, .slice r.sA r.sm r.sc]] U fun e w' => ∃ A3 c3, e = .returned (.tuple #[.agg #[.slice A3 n2 c3, .int .i64 res.back, .int .i64 res.dist, .int .i64 res.cost], .int .i64 res.e]) ∧ (∀ b o, b < U.heap.size → w'.cell? ⟨b, o, none⟩ = U.cell? ⟨b, o, none⟩) ∧ (∀ b o, b < U.heap.size → w'.frozen? ⟨b, o, none⟩ = U.frozen? ⟨b, o, none⟩) ∧ Hid (Below U.heap.size U w')) := by
            intro U hU
            refine (drun_b x r U res hres (HX0.out.below hU).w.at_ (HRAV.out.below hU)).mono ?_
            rintro e w' ⟨A3, c3, rfl, h5⟩
            rw [hn2]
            exact ⟨A3, c3, rfl, fun b o hb => h5.out.1.cell (p := ⟨b, o, none⟩) hb, fun b o hb => h5.out.1.frozen (p := ⟨b, o, none⟩) hb, h5.out.1⟩
          have HB : Hid (Below W0.heap.size W0 W0.drew) := (Below.refl W0.heap.size W0).drew
          have HBa : Hid (Below W0.heap.size W0 (W0.alloc (.cells #[.slice none 0 0, .int .i64 0, .int .i64 0, .int .i64 0] 60)).drew) := (below_alloc W0 (.cells #[.slice none 0 0, .int .i64 0, .int .i64 0, .int .i64 0] 60)).drew
          have HXT := Lib.hid (HX0.out.below (below_alloc W0 (.cells #[.slice none 0 0, .int .i64 0, .int .i64 0, .int .i64 0] 60)))
          have HX0' := Lib.hid HX0.out
          have a0 : W0.cell? ⟨b2, 0, none⟩ = some (.slice (some ad) p.rm p.rc) := by have h := HX0.out.p.c0; rw [HPA.out] at h; exact h
          clear hr hrA hra hres hn2 hc
          go_upto_region 12 with fail
          clear a0
          go_cut [11, 12] (fun s11 s12 W => ∃ V4 : World, V4 = W ∧ s12 = .int .i64 res.e ∧ DTBox W0 res n2 s11 V4)
          case first => as_aux_lemma =>
            obtain ⟨ad', hrA', ⟨f0, f1⟩, _⟩ := HX0.out.p.at_.at_ HRP.out
            obtain rfl : ad' = ad := by rw [HPA.out] at hrA'; exact (Option.some.inj hrA').symm
            obtain ⟨ad2, hrA2, ⟨t0, t1⟩, _⟩ := HXT.out.p.at_.at_ HRP.out
            obtain rfl : ad2 = ad' := by rw [HPA.out] at hrA2; exact (Option.some.inj hrA2).symm
            have c0 := HX0.out.w.c0
            have c1 := HX0.out.w.c1
            have c2 := HX0.out.w.c2
            have c3 := HX0.out.w.c3
            have c4 := HX0.out.w.c4
            have a0 : W0.cell? ⟨b2, 0, none⟩ = some (.slice (some ad2) p.rm p.rc) := by have h := HX0.out.p.c0; rw [HPA.out] at h; exact h
            have u0 := HXT.out.w.c0
            have u1 := HXT.out.w.c1
            have u2 := HXT.out.w.c2
            have u3 := HXT.out.w.c3
            have u4 := HXT.out.w.c4
            have s0 : (W0.alloc (.cells #[.slice none 0 0, .int .i64 0, .int .i64 0, .int .i64 0] 60)).cell? ⟨b2, 0, none⟩ = some (.slice (some ad2) p.rm p.rc) := by have h := HXT.out.p.c0; rw [HPA.out] at h; exact h
            clear hrA' hrA2
            go_region_law (first
              | (go_simp; go_at_call 26; ((with_reducible refine (HC.out (W0.drew) HB.out).mono ?_)); rintro e w5 ⟨A3, cA3, rfl, kc, kf, kU⟩)
              | (go_simp; go_at_call 26; ((with_reducible refine (HC.out ((W0.alloc (.cells #[.slice none 0 0, .int .i64 0, .int .i64 0, .int .i64 0] 60)).drew) HBa.out).mono ?_)); rintro e w5 ⟨A3, cA3, rfl, kc, kf, kU⟩))
            all_goals
              clear kc kf u0 u1 u2 u3 u4 s0 c0 c1 c2 c3 c4 a0 f0 f1 t0 t1
              go_wp2
              go_meet
              case rel =>
                refine ⟨_, rfl, rfl, ?_⟩
                first
                  | with_reducible exact dtbox_new (below_next HB.out kU.out)
                  | with_reducible exact dtbox_set kU.out
          case rest =>
            obtain ⟨V4, rfl, rfl, q1, A3, cA3, rfl, HTB⟩ := hcut
            clear HC HB HBa HXT
            have HX4 := Lib.hid (HX0.out.below HTB.out.2)
            have HB4 := Lib.hid (below_next HK.out.1 HTB.out.2)
            have HO4 := Lib.hid (HO.out.below HTB.out.2)
            have HG4 : Hid (V1.heap.size ≤ V4.heap.size) := HB4.out.size
            by_cases he : res.e = 0
            · have e2 : (res.e != (0 : Int)) = false := by rw [he]; decide
              have t3 := HTB.out.1.cell 3 _ rfl
              have hcf := Pl.cost_fits (N := x.N) (D := x.D) (T := x.T) (os := x.os) (ts := x.ts) (r := r.ro) (by rw [HRES.out]; exact he)
              rw [HRES.out] at hcf
              obtain ⟨hc0, hc1⟩ := hcf
              have HE2 : Hid (∀ (j : Nat) (s : Pl.Ro), j < k + 1 → (ros p.rs)[j]? = some s → (Pl.run x.N x.D x.T x.os x.ts s).e = 0) := fun j s hj hs => by
                by_cases h : j < k
                · exact HE.out j s h hs
                · obtain rfl : j = k := by omega
                  rw [HRK.out] at hs
                  obtain rfl := Option.some.inj hs
                  rw [HRES.out]
                  exact he
              have HSUM2 : Hid (S + res.cost = (Pl.costs (Pl.run x.N x.D x.T x.os x.ts) ((ros p.rs).take (k + 1))).sum) := by
                unfold Hid; rw [Pl.costs_next _ HRK.out, HSUM.out, HRES.out]
              have HTR : Hid ((Pl.trs (ros p.rs))[k]? = some r.tr) := Pl.trs_at HRK.out
              have HTN := Lib.hid (Pl.tw_next HTR.out)
              have HTK : Hid ((Pl.trs (ros p.rs)).take (k + 1) = (Pl.trs (ros p.rs)).take k ++ [r.tr]) := by unfold Hid; rw [List.take_add_one, HTR.out]; rfl
              have HTL : Hid (((Pl.trs (ros p.rs)).take k).length = k) := by
                unfold Hid Pl.trs
                rw [List.length_take, List.length_map, HRL.out]
                omega
              have HML : Hid (((Pl.trs (ros p.rs)).take k ++ [r.tr]).length = k + 1) := by unfold Hid; rw [List.length_append, HTL.out]; rfl
              have HA := Lib.hid (owni_next (w := V1) (below_more HB4.out (.cells #[.int .i64 r.tr] 3)) (Nat.le_refl _) (Nat.le_trans HG4.out (below_alloc V4 _).size) (HO4.out.below (below_alloc V4 (.cells #[.int .i64 r.tr] 3))) (some ⟨V4.heap.size, 0, none⟩) 1 1 [r.tr] rfl (one_int V4 r.tr) (by rw [HTL.out]; omega) (k + 1) HML.out)
              obtain ⟨ad', hrA', ⟨f0, _⟩, _⟩ := HX4.out.p.at_.at_ HRP.out
              obtain rfl : ad' = ad := by rw [HPA.out] at hrA'; exact (Option.some.inj hrA').symm
              have a0 : V4.cell? ⟨b2, 0, none⟩ = some (.slice (some ad') p.rm p.rc) := by have h := HX4.out.p.c0; rw [HPA.out] at h; exact h
              obtain ⟨r2, hr2⟩ : ∃ r2, ((Pl.trs (ros p.rs)).take k).contains r.tr = r2 := ⟨_, rfl⟩
              have HR2 := Lib.hid hr2
              have HU2 : Hid ((u || r2) = Ld.twB ((Pl.trs (ros p.rs)).take (k + 1))) := by rw [HTN.out, ← HU.out, HR2.out]; exact rfl
              have HC := Lib.hid (din_b A k cc ((Pl.trs (ros p.rs)).take k) r.tr V4 r2 hr2 HTL.out (by omega) (by
                obtain ⟨A', c', e, _, _, hI⟩ := HO4.out.ints
                injection e with e1 _ _
                subst e1
                exact hI))
              clear he hr2 hrA' HTN
              cases u with
              | true =>
                go_wp2_with (at_builtin; refine wpList_append_any rfl (.tmp 60) (.tmp 67) 30 30 rfl _ _ rfl rfl _ HA.out ?_; intro v5 w5 hap; obtain ⟨A5, c5, rfl, HAP⟩ := hap)
                go_roundg gk
                case measure => omega
                case rel => exact ⟨k + 1, c5, S + res.cost, true, A5, _, rfl, by omega, rfl, rfl, rfl, rfl, rfl, by first | rfl | go_num, by omega, by omega, HSUM2.out, HU2.out, ⟨HAP.out.2.1, HAP.out.2.2.1⟩, by rw [HTK.out]; exact HAP.out.1, HE2.out⟩
              | false =>
                go_wp2_with fail
                with_reducible refine HC.out.mono ?_
                rintro e w9 ⟨rfl, rfl⟩
                go_wp2_with (at_builtin; refine wpList_append_any rfl (.tmp 60) (.tmp 67) 30 30 rfl _ _ rfl rfl _ HA.out ?_; intro v5 w5 hap; obtain ⟨A5, c5, rfl, HAP⟩ := hap)
                go_roundg gk
                case measure => omega
                case rel => exact ⟨k + 1, c5, S + res.cost, r2, A5, _, rfl, by omega, rfl, rfl, rfl, rfl, rfl, by first | rfl | go_num, by omega, by omega, HSUM2.out, HU2.out, ⟨HAP.out.2.1, HAP.out.2.2.1⟩, by rw [HTK.out]; exact HAP.out.1, HE2.out⟩
            · have e2 : (res.e != (0 : Int)) = true := bne_iff_ne.2 he
              have HT : Hid (Pl.tripE (Pl.run x.N x.D x.T x.os x.ts) (ros p.rs) = res.e) := by
                have := Pl.trip_first HRK.out HE.out (by rw [HRES.out]; exact he)
                rw [HRES.out] at this
                exact this
              have HEE : Hid (c = (0, res.e)) := by rw [← HCK.out]; exact Pl.ck_trip HF.out HL6.out HT.out he
              clear he
              go_wp2_with fail
              go_ret2
              exact CheckPost.mk HEE.out (below_next HB1.out HB4.out)
        · obtain rfl : k = p.rm := by omega
          obtain rfl : gk = 0 := by omega
          have HT : Hid (Pl.tripE (Pl.run x.N x.D x.T x.os x.ts) (ros p.rs) = 0) := Pl.trip_all fun j s hs => HE.out j s (by have := (List.getElem?_eq_some_iff.1 hs).1; rw [HRL.out] at this; exact this) hs
          have HALL : Hid ((ros p.rs).take p.rm = ros p.rs) := List.take_of_length_le (by rw [HRL.out]; exact Nat.le_refl _)
          have HALT : Hid ((Pl.trs (ros p.rs)).take p.rm = Pl.trs (ros p.rs)) := List.take_of_length_le (by unfold Pl.trs; rw [List.length_map, HRL.out]; exact Nat.le_refl _)
          have HS : Hid (S = (Pl.costs (Pl.run x.N x.D x.T x.os x.ts) (ros p.rs)).sum) := by rw [HSUM.out, HALL.out]; exact rfl
          have HU0 : Hid (u = Pl.dupB (Pl.srt (Pl.trs (ros p.rs)))) := by rw [HU.out, HALT.out, Pl.dup_tw]; exact rfl
          have HB3 := Lib.hid (below_next HB1.out HK.out.1)
          clear HSUM HU HO HK HX1 HB1 HE HV3 HO0
          have y0 := HX0.out.p.c0
          have y1 := HX0.out.p.c1
          have HC := Lib.hid (dserved_b p W0 HX0.out.p.at_)
          go_wp2_with fail
          clear y0 y1
          with_reducible refine HC.out.mono ?_
          rintro e V5 ⟨A5, c5, rfl, hc5, h5⟩
          have HX5 := Lib.hid (HX0.out.below h5.out.1)
          have HB5 := Lib.hid (below_next HB3.out h5.out.1)
          have HLS : Hid ((Pl.servedS (ros p.rs)).length ≤ 100000) := by unfold Hid Pl.servedS; rw [Pl.srt_len]; have := HX5.out.p.at_.tot; omega
          have HSV := Lib.hid h5.out.2.1
          clear HC HX0 HB3 h5 hc5
          obtain ⟨sv, hsv⟩ : ∃ s, Pl.servedS (ros p.rs) = s := ⟨_, rfl⟩
          have HSVE := Lib.hid hsv
          rw [hsv] at HLS HSV ⊢
          clear hsv
          obtain ⟨n5, hn5⟩ : ∃ n, sv.length = n := ⟨_, rfl⟩
          have HN5 := Lib.hid hn5
          rw [hn5] at HLS ⊢
          clear hn5
          have hn5l := HLS.out
          go_wp2_with fail
          go_loopg [9, 14] n5 (fun gk s9 s14 W => ∃ (i q : Nat) (v : Bool), i + gk = n5 + 1 ∧ 1 ≤ i ∧ s9 = .bool v ∧ s14 = .int .i64 i ∧ W = V5.drewN q ∧ Hid (v = (u || Pl.dupB (sv.take i))))
          case atStart => exact ⟨1, 0, u, by omega, by omega, rfl, rfl, rfl, by rw [Pl.dup_one']; cases u <;> rfl⟩
          case round =>
            obtain ⟨i, q, v, hig, hi1, rfl, rfl, rfl, HV⟩ := hrel
            have HW : Hid (∀ m, (V5.drewN q).drewN m = V5.drewN (q + m)) := fun m => by simp
            by_cases hlt : i < n5
            · obtain ⟨gi, rfl⟩ : ∃ j, gk = j + 1 := ⟨gk - 1, by omega⟩
              obtain ⟨j, hj⟩ : ∃ j, i = j + 1 := ⟨i - 1, by omega⟩
              obtain ⟨y, hy⟩ := mlist_at sv i (by rw [HN5.out]; exact hlt)
              obtain ⟨z, hz⟩ := mlist_at sv j (by rw [HN5.out]; omega)
              obtain ⟨ad, e, hc0⟩ := HSV.out i y hy
              obtain ⟨ad', e', hd0⟩ := HSV.out j z hz
              obtain rfl : ad' = ad := by rw [e] at e'; exact (Option.some.inj e').symm
              have HAE := Lib.hid e
              have hc1 : (V5.drewN q).cell? (ad'.add i) = some (.int .i64 y) := by simpa using hc0
              have hd1 : (V5.drewN q).cell? (ad'.add j) = some (.int .i64 z) := by simpa using hd0
              have HN : Hid ((v || (y == z)) = (u || Pl.dupB (sv.take (i + 1)))) := by
                have h2 := Pl.dup_next hz (by rw [← hj]; exact hy)
                subst hj
                unfold Hid
                rw [h2, ← Bool.or_assoc, ← HV.out]
              have j1 : (i : Int) - 1 = (j : Int) := by omega
              have j2 : IntKind.i64.wrap (j : Int) = (j : Int) := IntWalk.i64_in _ (by omega)
              have i2 : (i : Int) < (n5 : Int) := by omega
              have j4 : (0 : Int) ≤ (j : Int) := by omega
              have j5 : (j : Int) < (n5 : Int) := by omega
              clear e e' hy hz hc0 hd0 hj HSV
              obtain rfl := HAE.out
              generalize V5.drewN q = W at *
              cases v with
              | true =>
                clear hc1 hd1
                go_wp2
                go_quiet (fail)
                go_wp2
                go_roundg gi
                case measure => omega
                case rel => exact ⟨i + 1, _, true, by omega, by omega, rfl, by first | rfl | go_num, HW.out _, HN.out⟩
              | false =>
                by_cases hxy : y = z
                · have heq : (y == z) = true := beq_iff_eq.2 hxy
                  rw [heq] at HN
                  clear hxy
                  go_wp2
                  go_quiet (fail)
                  go_wp2
                  go_roundg gi
                  case measure => omega
                  case rel => exact ⟨i + 1, _, true, by omega, by omega, rfl, by first | rfl | go_num, HW.out _, HN.out⟩
                · have heq : (y == z) = false := beq_eq_false_iff_ne.2 hxy
                  rw [heq] at HN
                  clear hxy
                  go_wp2
                  go_quiet (fail)
                  go_wp2
                  go_roundg gi
                  case measure => omega
                  case rel => exact ⟨i + 1, _, false, by omega, by omega, rfl, by first | rfl | go_num, HW.out _, HN.out⟩
            · have HVF : Hid (v = (u || Pl.dupB sv)) := by
                have h : sv.take i = sv := List.take_of_length_le (by rw [HN5.out]; omega)
                rw [h] at HV
                exact HV.out
              have HB56 : Hid (Below V5.heap.size V5 (V5.drewN q)) := ⟨rfl, rfl, rfl, Nat.le_refl _, fun _ _ => rfl⟩
              clear HV HW
              generalize V5.drewN q = V4 at *
              have HX6 := Lib.hid (HX5.out.below HB56.out)
              have HB6 := Lib.hid (below_next HB5.out HB56.out)
              clear HX5 HB5 HB56 HSV
              cases v with
              | true =>
                have HE : Hid (c = (0, 6)) := by
                  rw [← HCK.out]
                  refine Pl.ck_twice HF.out HL6.out HT.out ?_
                  rw [← HU0.out, HSVE.out]
                  have h := HVF.out.symm
                  rwa [Bool.or_eq_true] at h
                go_wp2_with fail
                go_ret2
                exact CheckPost.mk HE.out HB6.out
              | false =>
                have HR12 : Hid (Pl.dupB (Pl.srt (Pl.trs (ros p.rs))) = false ∧ Pl.dupB (Pl.servedS (ros p.rs)) = false) := by
                  rw [← HU0.out, HSVE.out]
                  have h := HVF.out.symm
                  rwa [Bool.or_eq_false_iff] at h
                obtain ⟨rs, hrs⟩ : ∃ s, Pl.restS x.os (ros p.rs) = s := ⟨_, rfl⟩
                have HRS := Lib.hid hrs
                obtain ⟨r3, hr3⟩ : ∃ r, decide (p.us = rs) = r := ⟨_, rfl⟩
                have HR3 := Lib.hid hr3
                obtain ⟨n7, hn7⟩ : ∃ n, rs.length = n := ⟨_, rfl⟩
                have HN7 := Lib.hid hn7
                have HNL : Hid (n7 ≤ 100000) := by
                  have := Pl.restS_len x.os (ros p.rs)
                  rw [hrs, hn7, HX6.out.w.at_.ml] at this
                  have h2 := HX6.out.w.at_.m2
                  unfold Hid; omega
                have HCE : Hid (∀ U : World, Below V4.heap.size V4 U → (U.cell? ⟨b1, 0, none⟩ = some (.int .i64 x.N) ∧ U.cell? ⟨b1, 1, none⟩ = some (.slice x.dA x.dm x.dc) ∧ U.cell? ⟨b1, 2, none⟩ = some (.slice x.tA x.tm x.tc) ∧ U.cell? ⟨b1, 3, none⟩ = some (.slice x.A x.m x.c) ∧ U.cell? ⟨b1, 4, none⟩ = some (.slice x.B x.k x.d) ∧ U.cell? ⟨b2, 0, none⟩ = some (.slice p.rA p.rm p.rc) ∧ U.cell? ⟨b2, 1, none⟩ = some (.slice p.uA p.um p.uc) ∧ Below V4.heap.size V4 U)) := fun U hU => by
                  have h := HX6.out.below hU
                  exact ⟨h.w.c0, h.w.c1, h.w.c2, h.w.c3, h.w.c4, h.p.c0, h.p.c1, hU⟩
                have HC0 : Hid (∀ U : World, (U.cell? ⟨b1, 0, none⟩ = some (.int .i64 x.N) ∧ U.cell? ⟨b1, 1, none⟩ = some (.slice x.dA x.dm x.dc) ∧ U.cell? ⟨b1, 2, none⟩ = some (.slice x.tA x.tm x.tc) ∧ U.cell? ⟨b1, 3, none⟩ = some (.slice x.A x.m x.c) ∧ U.cell? ⟨b1, 4, none⟩ = some (.slice x.B x.k x.d) ∧ U.cell? ⟨b2, 0, none⟩ = some (.slice p.rA p.rm p.rc) ∧ U.cell? ⟨b2, 1, none⟩ = some (.slice p.uA p.um p.uc) ∧ Below V4.heap.size V4 U) → Calls Tryz.prog 13 #[.agg #[.int .i64 x.N, .slice x.dA x.dm x.dc, .slice x.tA x.tm x.tc, .slice x.A x.m x.c, .slice x.B x.k x.d], .agg #[.slice p.rA p.rm p.rc, .slice p.uA p.um p.uc]] U fun e U => ∃ A3 c3, e = .returned (.slice A3 n7 c3) ∧ Hid (IntsAt U A3 rs) ∧ (U.cell? ⟨b1, 0, none⟩ = some (.int .i64 x.N) ∧ U.cell? ⟨b1, 1, none⟩ = some (.slice x.dA x.dm x.dc) ∧ U.cell? ⟨b1, 2, none⟩ = some (.slice x.tA x.tm x.tc) ∧ U.cell? ⟨b1, 3, none⟩ = some (.slice x.A x.m x.c) ∧ U.cell? ⟨b1, 4, none⟩ = some (.slice x.B x.k x.d) ∧ U.cell? ⟨b2, 0, none⟩ = some (.slice p.rA p.rm p.rc) ∧ U.cell? ⟨b2, 1, none⟩ = some (.slice p.uA p.um p.uc) ∧ Below V4.heap.size V4 U)) := by
                  rintro U ⟨_, _, _, _, _, _, _, h⟩
                  refine (drest_b x p U (HX6.out.below h).w.at_ (HX6.out.below h).p.at_).mono ?_
                  rintro e U' ⟨A3, c3, e1, e2, e3⟩
                  rw [HRS.out, HN7.out] at e1
                  rw [HRS.out] at e3
                  exact ⟨A3, c3, e1, e3.out.2.1, HCE.out _ (below_next h e3.out.1)⟩
                have HC1 : Hid (∀ (U : World) (A3 : Option Addr) (c3 : Nat), (U.cell? ⟨b1, 0, none⟩ = some (.int .i64 x.N) ∧ U.cell? ⟨b1, 1, none⟩ = some (.slice x.dA x.dm x.dc) ∧ U.cell? ⟨b1, 2, none⟩ = some (.slice x.tA x.tm x.tc) ∧ U.cell? ⟨b1, 3, none⟩ = some (.slice x.A x.m x.c) ∧ U.cell? ⟨b1, 4, none⟩ = some (.slice x.B x.k x.d) ∧ U.cell? ⟨b2, 0, none⟩ = some (.slice p.rA p.rm p.rc) ∧ U.cell? ⟨b2, 1, none⟩ = some (.slice p.uA p.um p.uc) ∧ Below V4.heap.size V4 U) → Hid (IntsAt U A3 rs) → Calls Tryz.prog 9 #[.slice p.uA p.um p.uc, .slice A3 n7 c3] U fun e U => e = .returned (.bool r3) ∧ (U.cell? ⟨b1, 0, none⟩ = some (.int .i64 x.N) ∧ U.cell? ⟨b1, 1, none⟩ = some (.slice x.dA x.dm x.dc) ∧ U.cell? ⟨b1, 2, none⟩ = some (.slice x.tA x.tm x.tc) ∧ U.cell? ⟨b1, 3, none⟩ = some (.slice x.A x.m x.c) ∧ U.cell? ⟨b1, 4, none⟩ = some (.slice x.B x.k x.d) ∧ U.cell? ⟨b2, 0, none⟩ = some (.slice p.rA p.rm p.rc) ∧ U.cell? ⟨b2, 1, none⟩ = some (.slice p.uA p.um p.uc) ∧ Below V4.heap.size V4 U)) := by
                  rintro U A3 c3 ⟨_, _, _, _, _, _, _, h⟩ hv
                  exact (psame_b p.uA A3 p.um p.uc n7 c3 p.us rs U r3 HR3.out (HX6.out.below h).p.at_.ul HN7.out (by have := (HX6.out.below h).p.at_.u2; omega) HNL.out (HX6.out.below h).p.at_.us hv.out).mono fun _ _ ⟨e1, q, e2⟩ => ⟨e1, HCE.out _ (by subst e2; exact ⟨h.os, h.tape, h.output, h.size, h.block⟩)⟩
                obtain ⟨c0, c1, c2', c3, c4, c5', c6, _⟩ := HCE.out V4 (Below.refl _ _)
                have hB := (Below.refl V4.heap.size V4).drew
                clear HCE hrs hr3 hn7
                go_wp2
                go_region_held3 (fun U : World => (U.cell? ⟨b1, 0, none⟩ = some (.int .i64 x.N) ∧ U.cell? ⟨b1, 1, none⟩ = some (.slice x.dA x.dm x.dc) ∧ U.cell? ⟨b1, 2, none⟩ = some (.slice x.tA x.tm x.tc) ∧ U.cell? ⟨b1, 3, none⟩ = some (.slice x.A x.m x.c) ∧ U.cell? ⟨b1, 4, none⟩ = some (.slice x.B x.k x.d) ∧ U.cell? ⟨b2, 0, none⟩ = some (.slice p.rA p.rm p.rc) ∧ U.cell? ⟨b2, 1, none⟩ = some (.slice p.uA p.um p.uc) ∧ Below V4.heap.size V4 U)) (first | exact ⟨c0, c1, c2', c3, c4, c5', c6, hB⟩ | exact ⟨k0, k1, k2, k3, k4, k5, k6, kb⟩ | assumption)
                  (first
                    | (go_at_call 9; ((with_reducible refine (HC1.out _ _ _ (by assumption) HVO).mono ?_)); rintro e w7 ⟨rfl, k0, k1, k2, k3, k4, k5, k6, kb⟩)
                    | (go_at_call 13; ((with_reducible refine (HC0.out _ (by assumption)).mono ?_)); rintro e w7 ⟨A7, c7, rfl, HVO, k0, k1, k2, k3, k4, k5, k6, kb⟩))
                all_goals
                  have KB := Lib.hid (below_next HB6.out kb)
                  clear k0 k1 k2 k3 k4 k5 k6 kb c0 c1 c2' c3 c4 c5' c6 hB HC0 HC1
                  cases r3 with
                  | false =>
                    have HE : Hid (c = (0, 2)) := by rw [← HCK.out]; exact Pl.ck_form HF.out HL6.out HT.out HR12.out.1 HR12.out.2 (by rw [HRS.out]; exact of_decide_eq_false HR3.out)
                    go_wp2_with fail
                    go_ret2
                    exact CheckPost.mk HE.out KB.out
                  | true =>
                    have HE : Hid (c = (S, 0)) := by rw [← HCK.out, Pl.ck_ok HF.out HL6.out HT.out HR12.out.1 HR12.out.2 (by rw [HRS.out]; exact of_decide_eq_true HR3.out), HS.out]; exact rfl
                    go_wp2_with fail
                    go_ret2
                    exact CheckPost.mk HE.out KB.out
  · have e1 : (f != (0 : Int)) = true := bne_iff_ne.2 hf0
    have HE : Hid (c = (0, f)) := by rw [← HCK.out]; exact Pl.ck_world HF.out hf0
    clear hf0
    go_wp2_with fail
    go_ret2
    exact CheckPost.mk HE.out HB1.out
end Go.Proofs.YtmidkjlikhngmaaGreat

/-! The document's answer for plans: Less. What a plan's copy may become while its stops are counted up. -/
namespace Go.Proofs.YtmidkjlikhngmaaGreat
open Go.RowKit
set_option linter.unusedVariables false
set_option maxRecDepth 100000

set_option maxHeartbeats 8000000 in
theorem dless_b (x : Wd) (a b : Pd) (w : World) (r : Bool) (hr : Pl.lessB (Pl.checkS x.N x.D x.T x.os x.ts (ros a.rs) a.us) (Pl.checkS x.N x.D x.T x.os x.ts (ros b.rs) b.us) a.um b.um = r) (hx : WAt w x) (ha : PAt w a) (hb : PAt w b) :
    Calls Tryz.prog 15 #[.agg #[.int .i64 x.N, .slice x.dA x.dm x.dc, .slice x.tA x.tm x.tc, .slice x.A x.m x.c, .slice x.B x.k x.d], .agg #[.slice a.rA a.rm a.rc, .slice a.uA a.um a.uc], .agg #[.slice b.rA b.rm b.rc, .slice b.uA b.um b.uc]] w fun e w' => e = .returned (.bool r) ∧ Hid (Below w.heap.size w w') := by
  have HX := Lib.hid (WPP.new hx ha hb)
  have HB0 : Hid (Below w.heap.size w (((w.alloc (.cells #[.int .i64 x.N, .slice x.dA x.dm x.dc, .slice x.tA x.tm x.tc, .slice x.A x.m x.c, .slice x.B x.k x.d] 28)).alloc (.cells #[.slice a.rA a.rm a.rc, .slice a.uA a.um a.uc] 32)).alloc (.cells #[.slice b.rA b.rm b.rc, .slice b.uA b.um b.uc] 32))) := below_more (below_more (below_alloc _ _) _) _
  obtain ⟨ca, hca⟩ : ∃ c, Pl.checkS x.N x.D x.T x.os x.ts (ros a.rs) a.us = c := ⟨_, rfl⟩
  obtain ⟨cb, hcb⟩ : ∃ c, Pl.checkS x.N x.D x.T x.os x.ts (ros b.rs) b.us = c := ⟨_, rfl⟩
  rw [hca, hcb] at hr
  have HR := Lib.hid hr
  have HCA := Lib.hid hca
  have HCB := Lib.hid hcb
  clear hx ha hb hr hca hcb
  go_enter Tryz.func15, Tryz.ntmps15
  have x0 := HX.out.w.c0
  have x1 := HX.out.w.c1
  have x2 := HX.out.w.c2
  have x3 := HX.out.w.c3
  have x4 := HX.out.w.c4
  have y0 := HX.out.a.c0
  have y1 := HX.out.a.c1
  go_wp2_with fail
  clear x0 x1 x2 x3 x4 y0 y1
  generalize (((w.alloc (.cells #[.int .i64 x.N, .slice x.dA x.dm x.dc, .slice x.tA x.tm x.tc, .slice x.A x.m x.c, .slice x.B x.k x.d] 28)).alloc (.cells #[.slice a.rA a.rm a.rc, .slice a.uA a.um a.uc] 32)).alloc (.cells #[.slice b.rA b.rm b.rc, .slice b.uA b.um b.uc] 32)) = V at *
  generalize w.heap.size + 1 + 1 = b3 at *
  generalize w.heap.size + 1 = b2 at *
  generalize hb1 : w.heap.size = b1 at HX ⊢
  clear hb1
  have HC := Lib.hid (dcheck_b x a V ca HCA.out HX.out.w.at_ HX.out.a.at_)
  with_reducible refine HC.out.mono ?_
  rintro e V1 ⟨rfl, hV1⟩
  have HX1 := Lib.hid (HX.out.below hV1.out)
  have HB1 := Lib.hid (below_next HB0.out hV1.out)
  clear HC HX HB0 hV1 HCA
  have x0 := HX1.out.w.c0
  have x1 := HX1.out.w.c1
  have x2 := HX1.out.w.c2
  have x3 := HX1.out.w.c3
  have x4 := HX1.out.w.c4
  have y0 := HX1.out.b.c0
  have y1 := HX1.out.b.c1
  go_wp2_with fail
  clear x0 x1 x2 x3 x4 y0 y1
  have HC := Lib.hid (dcheck_b x b V1 cb HCB.out HX1.out.w.at_ HX1.out.b.at_)
  with_reducible refine HC.out.mono ?_
  rintro e V2 ⟨rfl, hV2⟩
  have HX2 := Lib.hid (HX1.out.below hV2.out)
  have HB2 := Lib.hid (below_next HB1.out hV2.out)
  clear HC HX1 HB1 hV2 HCB
  obtain ⟨cost1, er1⟩ := ca
  obtain ⟨cost2, er2⟩ := cb
  by_cases he1 : er1 = 0
  · by_cases he2 : er2 = 0
    · subst he1 he2
      have e0 : ((0 : Int) != (0 : Int)) = false := by decide
      have u1 := HX2.out.a.c1
      have v1 := HX2.out.b.c1
      have HLA : Hid (a.um ≤ 1000 ∧ b.um ≤ 1000) := ⟨HX2.out.a.at_.u2, HX2.out.b.at_.u2⟩
      by_cases hm : a.um < b.um
      ·
        have d1 : decide ((a.um : Int) < (b.um : Int)) = true := decide_eq_true (by omega)
        have d1n : decide (a.um < b.um) = true := decide_eq_true hm
        have HF : Hid (r = true) := by
          rw [← HR.out]
          exact decide_eq_true ⟨rfl, rfl, .inl hm⟩
        go_wp2_with fail
        go_ret
        exact ⟨by rw [HF.out]; rfl, HB2.out⟩
      · by_cases hq : a.um = b.um
        · by_cases hc : cost1 < cost2
          ·
            have d1 : decide ((a.um : Int) < (b.um : Int)) = false := decide_eq_false (by omega)
            have d1n : decide (a.um < b.um) = false := decide_eq_false hm
            have d2 : ((a.um : Int) == (b.um : Int)) = true := by rw [hq]; simp
            have d2n : (a.um == b.um) = true := by rw [hq]; simp
            have d3 : decide (cost1 < cost2) = true := decide_eq_true hc
            have HF : Hid (r = true) := by
              rw [← HR.out]
              exact decide_eq_true ⟨rfl, rfl, .inr ⟨hq, hc⟩⟩
            go_wp2_with fail
            go_ret
            exact ⟨by rw [HF.out]; rfl, HB2.out⟩
          ·
            have d1 : decide ((a.um : Int) < (b.um : Int)) = false := decide_eq_false (by omega)
            have d1n : decide (a.um < b.um) = false := decide_eq_false hm
            have d2 : ((a.um : Int) == (b.um : Int)) = true := by rw [hq]; simp
            have d2n : (a.um == b.um) = true := by rw [hq]; simp
            have d3 : decide (cost1 < cost2) = false := decide_eq_false hc
            have HF : Hid (r = false) := by
              rw [← HR.out]
              exact decide_eq_false fun e => e.2.2.elim hm fun e2 => hc e2.2
            go_wp2_with fail
            go_ret
            exact ⟨by rw [HF.out]; rfl, HB2.out⟩
        ·
          have d1 : decide ((a.um : Int) < (b.um : Int)) = false := decide_eq_false (by omega)
          have d1n : decide (a.um < b.um) = false := decide_eq_false hm
          have d2 : ((a.um : Int) == (b.um : Int)) = false := beq_eq_false_iff_ne.2 (by omega)
          have d2n : (a.um == b.um) = false := beq_eq_false_iff_ne.2 hq
          have HF : Hid (r = false) := by
            rw [← HR.out]
            exact decide_eq_false fun e => e.2.2.elim hm fun e2 => hq e2.1
          go_wp2_with fail
          go_ret
          exact ⟨by rw [HF.out]; rfl, HB2.out⟩
    · have e1 : (er1 != (0 : Int)) = false := by rw [he1]; decide
      have e2 : (er2 != (0 : Int)) = true := bne_iff_ne.2 he2
      have HF : Hid (r = false) := by rw [← HR.out]; exact Pl.less_no2 he2
      clear he1 he2
      go_wp2_with fail
      go_ret
      exact ⟨by rw [HF.out]; rfl, HB2.out⟩
  · have e1 : (er1 != (0 : Int)) = true := bne_iff_ne.2 he1
    have HF : Hid (r = false) := by rw [← HR.out]; exact Pl.less_no1 he1
    clear he1
    go_wp2_with fail
    go_ret
    exact ⟨by rw [HF.out]; rfl, HB2.out⟩

/-- a copy, its stops counted up: its box and its routes stay, its stops hold some numbers -/
structure Bump (V : World) (h bq : Nat) (q : Pd) (W : World) : Prop where
  bel : Below V.heap.size V W
  box : Box W bq q.cells 32
  rows : RowsR W q.rA q.rs
  st : ∀ r ∈ q.rs, ∀ j, j < r.sm → ∃ ad z, r.sA = some ad ∧ h ≤ ad.block ∧ ad.block < bq ∧ W.cell? (ad.add j) = some (.int .i64 z) ∧ W.frozen? (ad.add j) = false
theorem add_block (ad : Addr) (j : Nat) : (ad.add j).block = ad.block := by unfold Addr.add; split <;> rfl
theorem rows_other {W W' : World} {A : Option Addr} {l : List Rd} (h : RowsR W A l) (hb : ∀ ad, A = some ad → W'.heap[ad.block]? = W.heap[ad.block]?) : RowsR W' A l := fun k r hr => by
  obtain ⟨ad, e, h1, h2⟩ := h k r hr
  exact ⟨ad, e, by rw [World.cell?_of_block (w := W) (w' := W') (by rw [add_block]; exact hb ad e)]; exact h1, by rw [World.cell?_of_block (w := W) (w' := W') (by show W'.heap[(ad.add (k * 2)).block]? = W.heap[(ad.add (k * 2)).block]?; rw [add_block]; exact hb ad e)]; exact h2⟩
theorem Bump.set {V W : World} {h bq : Nat} {q : Pd} (H : Bump V h bq q W) (hh : V.heap.size ≤ h) (hq : ∀ ad, q.rA = some ad → ad.block < h) (ad : Addr) (j : Nat) (h1 : h ≤ ad.block) (h2 : ad.block < bq) (y : Int) : Bump V h bq q (W.setCell (ad.add j) (.int .i64 y)) := by
  have hblk := add_block ad j
  refine ⟨H.bel.setCell (p := ad.add j) (by rw [hblk]; omega) _, (Go.Deep.blk_setCell_other _ _ _ _ (by rw [hblk]; omega)).trans H.box, rows_other H.rows fun ad' e => Go.Deep.blk_setCell_other _ _ _ _ (by rw [hblk]; have := hq ad' e; omega), fun r hr k hk => ?_⟩
  obtain ⟨ad2, z, e, l1, l2, c, f⟩ := H.st r hr k hk
  by_cases e2 : ad.add j = ad2.add k
  · exact ⟨ad2, y, e, l1, l2, by rw [e2]; exact World.cell?_setCell_same W _ _ c, by rw [World.frozen?_setCell]; exact f⟩
  · exact ⟨ad2, z, e, l1, l2, by rw [World.cell?_setCell_other W _ _ _ e2]; exact c, by rw [World.frozen?_setCell]; exact f⟩
theorem Bump.start {V W U : World} {a q : Pd} (h : CopiedP V W a q) (hU : Below W.heap.size W U) (hb : Box U W.heap.size q.cells 32) : ∃ g, V.heap.size ≤ g ∧ (∀ ad, q.rA = some ad → ad.block < g) ∧ Bump V g W.heap.size q U := by
  obtain ⟨g, hg, _, hq, ho⟩ := h.own
  refine ⟨g, hg, hq, below_next h.bel hU, hb, h.at_.rows.below hU, fun r hr j hj => ?_⟩
  have hst := h.at_.ra r hr
  have hown := ho r hr
  rcases hown.2 with ⟨e, h0⟩ | ⟨b, cap, cur, hv, hgb, hh, _⟩
  · injection e with e1 e2 e3
    omega
  · injection hv with e1 e2 e3
    obtain ⟨z, hz⟩ := mlist_at r.st j (by rw [hst.sl]; exact hj)
    obtain ⟨ad, e4, hc⟩ := hst.st j z hz
    obtain rfl : ad = ⟨b, 0, none⟩ := by rw [e1] at e4; exact (Option.some.inj e4).symm
    have hlt : b < W.heap.size := (Array.getElem?_eq_some_iff.1 hh).1
    refine ⟨⟨b, 0, none⟩, z, e1, hgb, hlt, (hU.cell (p := Addr.add ⟨b, 0, none⟩ j) (by rw [add_block]; exact hlt)).trans hc, (hU.frozen (p := Addr.add ⟨b, 0, none⟩ j) (by rw [add_block]; exact hlt)).trans ?_⟩
    unfold World.frozen?
    rw [add_block, show W.heap[(⟨b, 0, none⟩ : Addr).block]? = _ from hh]
    simp
end Go.Proofs.YtmidkjlikhngmaaGreat
