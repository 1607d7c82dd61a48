/- The document's Sorted. -/
import Derived.Test.YtbacakblboodeaaPlanMem
import Derived.Maps.AppendAt
import Derived.RegionTactic
import Derived.BigRegion
import Derived.Deep.DeepCutAuto
import Derived.Deep.CutBlock
namespace Pl
/-- where a number goes -/
theorem ins_at {x : Int} {s : List Int} {k : Nat} (h1 : ∀ (j : Nat) (y : Int), j < k → s[j]? = some y → y ≤ x) (h2 : ∀ y, s[k]? = some y → ¬ y ≤ x) (hk : k ≤ s.length) : ins x s = s.take k ++ [x] ++ s.drop k := by
  induction s generalizing k with
  | nil =>
    have : k = 0 := by simpa using hk
    subst this
    rfl
  | cons a r ih =>
    cases k with
    | zero =>
      have := h2 a rfl
      unfold ins
      rw [if_neg this]
      rfl
    | succ k =>
      have := h1 0 a (Nat.succ_pos k) rfl
      unfold ins
      rw [if_pos this, ih (fun j y hj hy => h1 (j + 1) y (Nat.succ_lt_succ hj) (by simpa using hy)) (fun y hy => h2 y (by simpa using hy)) (by simpa using hk)]
      rfl
end Pl
namespace Go.Proofs.Ytbacakblboodeaa
open Go.RowKit
set_option linter.unusedVariables false
set_option maxRecDepth 100000

/-! rows of numbers cut and joined -/
theorem sizeIs (W : World) : (sizeOf (Try.prog.elem 29)).run Try.prog W = .ok 1 W := by kernel_rfl
theorem front_is (A : Option Addr) (n c k : Nat) (hnc : n ≤ c) (hk : k ≤ n) :
    ∀ W : World, (Instr.slice 29 (.slice A n c) none (some (.int .i64 (k : Int))) none).run Try.prog W = .ok (.slice A k c) W := by
  intro W
  rw [run_slice_h W 29 A n c (by kernel_rfl) .i64 _ (by omega) (by omega), sizeIs W]
  simp [sliced, Result.andThen]
  intro _
  cases A <;> rfl
theorem IntsAt.take' {W : World} {A : Option Addr} {l : List Int} (h : IntsAt W A l) (k : Nat) : IntsAt W A (l.take k) := fun j z hz => by
  refine h j z ?_
  by_cases hj : j < k
  · rwa [List.getElem?_take_of_lt hj] at hz
  · rw [List.getElem?_eq_none (by rw [List.length_take]; omega)] at hz; cases hz
theorem IntsAt.drop' {W : World} {ad : Addr} {l : List Int} (h : IntsAt W (some ad) l) (k : Nat) : IntsAt W (some (ad.add k)) (l.drop k) := fun j z hz => by
  rw [List.getElem?_drop] at hz
  obtain ⟨ad', e, c⟩ := h (k + j) z hz
  obtain rfl := Option.some.inj e
  exact ⟨_, rfl, by rw [add_plus]; exact c⟩
theorem back_is (A : Option Addr) (n c k : Nat) (hnc : n ≤ c) (hk : k ≤ n) :
    ∃ A' c', (∀ W : World, (Instr.slice 29 (.slice A n c) (some (.int .i64 (k : Int))) none none).run Try.prog W = .ok (.slice A' (n - k) c') W) ∧
      ∀ (W : World) (l : List Int), l.length = n → IntsAt W A l → IntsAt W A' (l.drop k) := by
  refine ⟨if c = k then A else A.map (·.add k), c - k, fun W => ?_, fun W l hl h => ?_⟩
  · rw [run_slice_l W 29 A n c (by kernel_rfl) .i64 _ (by omega) (by omega), sizeIs W]
    simp [sliced, Result.andThen]
  · by_cases e : k = n
    · rw [List.drop_eq_nil_of_le (by omega)]
      exact IntsAt.nil _ _
    · rw [if_neg (by omega)]
      cases A with
      | none =>
        have : l = [] := by
          cases l with
          | nil => rfl
          | cons z l =>
            obtain ⟨ad, h1, _⟩ := h 0 z rfl
            cases h1
        subst this
        simp only [List.drop_nil]
        exact IntsAt.nil _ _
      | some ad => exact h.drop' k
theorem OwnI.lower {W : World} {a b : Nat} {v : Value} {l : List Int} (h : OwnI W b v l) (hab : a ≤ b) : OwnI W a v l := by
  obtain ⟨h1, h2⟩ := h
  refine ⟨h1, ?_⟩
  rcases h2 with h2 | ⟨g, cap, cur, hv, hg, r⟩
  · exact .inl h2
  · exact .inr ⟨g, cap, cur, hv, Nat.le_trans hab hg, r⟩
/-- an append to a row of numbers of one's own, and where that lies -/
theorem owni_app_at {W : World} {base : Nat} {v : Value} {l : List Int} (h : OwnI W base v l) (hb : base ≤ W.heap.size) (A : Option Addr) (m c : Nat) (b : List Int) (hm : b.length = m) (hby : IntsAt W A b) (hs : l.length + m ≤ 100000) (M : Nat) (hM : (l ++ b).length = M) :
    ∃ v' w', (Builtin.append_ #[29, 29] 29 #[v, .slice A m c]).run Try.prog W = .ok v' w' ∧ (∃ A' c', v' = .slice A' M c') ∧ Hid (OwnI w' base v' (l ++ b) ∧ Below base W w' ∧ (∀ k, k < W.heap.size → v.ownBlock ≠ some k → w'.heap[k]? = W.heap[k]?) ∧ W.heap.size ≤ w'.heap.size ∧ (v'.ownBlock = v.ownBlock ∨ v'.ownBlock = some W.heap.size)) := by
  obtain ⟨i0, hi0, hz0, hz1, hz2⟩ := info_parts3 int_info
  have hM' : l.length + m = M := by rw [← hM, List.length_append, hm]
  cases A with
  | none =>
    have hl0 : b = [] := by
      cases b with
      | nil => rfl
      | cons z b =>
        obtain ⟨ad, h1, _⟩ := hby 0 z rfl
        cases h1
    subst hl0
    obtain rfl : m = 0 := by simpa using hm.symm
    obtain rfl : l.length = M := by simpa using hM
    rw [List.append_nil]
    obtain ⟨A', c', e, _⟩ := h.ints
    refine ⟨v, W, ?_, ⟨A', c', e⟩, h, Below.refl _ _, fun _ _ _ => rfl, Nat.le_refl _, .inl rfl⟩
    rcases h.2 with ⟨rfl, h0⟩ | ⟨g, cap, cur, rfl, _, _, hnc, _⟩
    · simp [Builtin.append_, run_underlying Try.underlying29, sizeOf, typeInfo, hi0, Builtin.lenOf, Builtin.firstCells]
    · simp [Builtin.append_, run_underlying Try.underlying29, sizeOf, typeInfo, hi0, Builtin.lenOf, Builtin.firstCells, hnc, storeCells]
  | some ad =>
    obtain ⟨v', w', h1, h2, h3, _, h5⟩ := run_append_own_at (P := Try.prog) W base 29 29 3 i0 _ 1 8 Try.underlying29 hi0 hz0 hz1 hz2 rfl (by omega) v l.length (l.map (Value.int .i64)) h ad m c (b.map (Value.int .i64)) (by rw [List.length_map, hm, Nat.mul_one])
      (fun j u hu => by
        rw [List.getElem?_map] at hu
        cases hz : b[j]? with
        | none => rw [hz] at hu; cases hu
        | some z =>
          rw [hz] at hu
          obtain rfl := Option.some.inj hu
          obtain ⟨ad', e, hc⟩ := hby j z hz
          obtain rfl := Option.some.inj e
          exact hc) (by intro x hx; obtain ⟨z, _, rfl⟩ := List.mem_map.1 hx; rfl) (by unfold maxLen; omega) (by omega) hb
    have ho : OwnI w' base v' (l ++ b) := by unfold OwnI; rw [List.length_append, hm, List.map_append]; exact h2
    obtain ⟨A', c', e, _⟩ := ho.ints
    rw [hM] at e
    refine ⟨v', w', h1, ⟨A', c', e⟩, ho, ?_, fun k hk hv => h3.block k hk (fun e => hv e.symm), h3.size, h5⟩
    exact ⟨h3.os, h3.tape, h3.output, h3.size, fun k hk => h3.block k (Nat.lt_of_lt_of_le hk hb) (fun e => by have := (h.lt k e.symm).1; omega)⟩

/-- a row while it is joined, beside one number's that waits, or none yet -/
structure J1 (V : World) (xb : Option Nat) (x : Int) (l : List Int) (v : Value) (w : World) : Prop where
  own : OwnI w V.heap.size v l
  bel : Below V.heap.size V w
  box : ∀ g, xb = some g → V.heap.size ≤ g ∧ Box w g #[.int .i64 x] 3 ∧ v.ownBlock ≠ some g
theorem J1.a (V : World) (x : Int) : J1 V none x [] (.slice (some ⟨V.heap.size, 0, none⟩) 0 0) (V.alloc (.cells #[] 3)).drew :=
  ⟨own_none V V.heap.size (Nat.le_refl _), (below_alloc V _).drew, fun g e => by cases e⟩
theorem J1.b (V : World) (x : Int) : J1 V (some (V.heap.size + 1)) x [] (.slice (some ⟨V.heap.size, 0, none⟩) 0 0) ((V.alloc (.cells #[] 3)).alloc (.cells #[.int .i64 x] 3)).drew := by
  refine ⟨(own_none V V.heap.size (Nat.le_refl _)).below (below_alloc _ _).drew, (below_more (below_alloc V _) _).drew, fun g e => ?_⟩
  obtain rfl := Option.some.inj e
  refine ⟨by omega, ?_, by simp [Value.ownBlock]⟩
  rw [size_one V (.cells #[] 3)]
  exact Box.new (V.alloc (.cells #[] 3)) _ _
theorem J1.c (V : World) (x : Int) : J1 V (some V.heap.size) x [] (.slice (some ⟨V.heap.size + 1, 0, none⟩) 0 0) ((V.alloc (.cells #[.int .i64 x] 3)).alloc (.cells #[] 3)).drew := by
  refine ⟨?_, (below_more (below_alloc V _) _).drew, fun g e => ?_⟩
  · rw [size_one V (.cells #[.int .i64 x] 3)]
    exact own_none (V.alloc (.cells #[.int .i64 x] 3)) V.heap.size (below_alloc V _).size
  · obtain rfl := Option.some.inj e
    exact ⟨Nat.le_refl _, (Box.new V _ _).below (below_alloc _ _).drew, by simp [Value.ownBlock]⟩
theorem J1.app {V w : World} {xb : Option Nat} {x : Int} {l : List Int} {v : Value} (h : J1 V xb x l v w) (A : Option Addr) (m c : Nat) (b : List Int) (hm : b.length = m) (hby : IntsAt V A b) (hs : l.length + m ≤ 100000) (M : Nat) (hM : (l ++ b).length = M) :
    ∃ v' w', (Builtin.append_ #[29, 29] 29 #[v, .slice A m c]).run Try.prog w = .ok v' w' ∧ ∃ A' c', v' = .slice A' M c' ∧ Hid (J1 V xb x (l ++ b) v' w') := by
  obtain ⟨v', w', h1, ⟨A', c', e⟩, h2⟩ := owni_app_at h.own h.bel.size A m c b hm (hby.below h.bel) hs M hM
  obtain ⟨o1, o2, o3, o4, o5⟩ := h2.out
  refine ⟨v', w', h1, A', c', e, o1, h.bel.trans o2, fun g hg => ?_⟩
  obtain ⟨g1, g2, g3⟩ := h.box g hg
  refine ⟨g1, (o3 g g2.lt g3).trans g2, fun hv => ?_⟩
  rcases o5 with o5 | o5
  · rw [o5] at hv; exact g3 hv
  · rw [o5] at hv
    have := g2.lt
    injection hv with hv
    omega
theorem J1.late {V w : World} {x : Int} {l : List Int} {v : Value} (h : J1 V none x l v w) : J1 V (some w.heap.size) x l v (w.alloc (.cells #[.int .i64 x] 3)) := by
  refine ⟨h.own.below (below_alloc _ _), h.bel.alloc h.bel.size _, fun g e => ?_⟩
  obtain rfl := Option.some.inj e
  refine ⟨h.bel.size, Box.new _ _ _, fun hv => ?_⟩
  have := (h.own.lt _ hv).2
  omega
/-- the number is put behind -/
theorem J1.one {V w : World} {g : Nat} {x : Int} {l : List Int} {v : Value} (h : J1 V (some g) x l v w) (hs : l.length ≤ 50000) (M : Nat) (hM : (l ++ [x]).length = M) :
    ∃ v' w', (Builtin.append_ #[29, 29] 29 #[v, .slice (some ⟨g, 0, none⟩) 1 1]).run Try.prog w = .ok v' w' ∧ ∃ A' c', v' = .slice A' M c' ∧ Hid (J1 V none x (l ++ [x]) v' w') := by
  obtain ⟨g1, g2, g3⟩ := h.box g rfl
  have hx : IntsAt w (some ⟨g, 0, none⟩) [x] := fun k z hz => by
    have hk : k = 0 := by have := (List.getElem?_eq_some_iff.1 hz).1; simp at this; exact this
    subst hk
    exact ⟨_, rfl, by rw [Addr.add_mid, Nat.zero_add]; exact g2.cell 0 _ (by simpa using congrArg (Option.map (Value.int .i64)) hz)⟩
  obtain ⟨v', w', h1, ⟨A', c', e⟩, h2⟩ := owni_app_at h.own h.bel.size (some ⟨g, 0, none⟩) 1 1 [x] rfl hx (by omega) M hM
  exact ⟨v', w', h1, A', c', e, h2.out.1, h.bel.trans h2.out.2.1, fun g e => by cases e⟩

set_option maxHeartbeats 8000000 in
theorem dsorted_b (A : Option Addr) (n c : Nat) (l : List Int) (w : World) (hn : l.length = n) (hn2 : n ≤ 20000) (h : IntsAt w A l) :
    Calls Try.prog 30 #[.slice A n c] w (NewI w (Pl.srt l)) := by
  have HL := Lib.hid h
  have HN := Lib.hid hn
  have HB0 : Hid (Below w.heap.size w (w.alloc (.cells #[] 3))) := below_alloc _ _
  have HO0 : Hid (OwnI (w.alloc (.cells #[] 3)) w.heap.size (.slice (some ⟨w.heap.size, 0, none⟩) 0 0) []) := own_none w _ (Nat.le_refl _)
  clear h hn
  go_enter Try.func30, Try.ntmps30
  go_wp2_with fail
  generalize w.alloc (.cells #[] 3) = V at *
  go_loopg [3, 4] n (fun gk s3 s4 W => ∃ (i cc : Nat) (B : Option Addr) (W0 : World), W0 = W ∧ i + gk = n ∧ s3 = .slice B i cc ∧ s4 = .int .i64 i ∧ Hid (Below w.heap.size w W0) ∧ Hid (OwnI W0 w.heap.size (.slice B i cc) (Pl.srt (l.take i))))
  case atStart => exact ⟨0, 0, _, _, rfl, by omega, rfl, rfl, HB0.out, HO0.out⟩
  case round =>
    obtain ⟨i, cc, B, W0, rfl, hig, rfl, rfl, HK, HO⟩ := hrel
    have HLS : Hid ((Pl.srt (l.take i)).length = i) := by unfold Hid; rw [Pl.srt_len, List.length_take, HN.out]; omega
    have HBI : Hid (IntsAt W0 B (Pl.srt (l.take i)) ∧ i ≤ cc ∧ ∀ ad, B = some ad → w.heap.size ≤ ad.block ∧ ad.spot = none) := by
      obtain ⟨A', c', e, h1, _, h2⟩ := HO.out.ints
      rw [HLS.out] at e h1
      injection e with e1 e2 e3
      subst e1 e3
      refine ⟨h2, h1, ?_⟩
      rintro ad rfl
      rcases HO.out.2 with ⟨h0, _⟩ | ⟨g, cap, cur, hv, hg, _⟩
      · cases h0
      · injection hv with hv _ _
        obtain rfl := Option.some.inj hv
        exact ⟨hg, rfl⟩
    by_cases hlt : i < n
    · obtain ⟨go, rfl⟩ : ∃ j, gk = j + 1 := ⟨gk - 1, by omega⟩
      obtain ⟨x, hx⟩ := mlist_at l i (by rw [HN.out]; exact hlt)
      have hxc := (HL.out.below HK.out) i x hx
      have HINS : Hid (Pl.srt (l.take (i + 1)) = Pl.ins x (Pl.srt (l.take i))) := by unfold Hid; rw [List.take_add_one, hx]; exact Pl.srt_snoc _ _
      obtain ⟨ad, HAD, hc0⟩ := hxc
      obtain rfl := HAD
      generalize Pl.srt (l.take i) = s at *
      clear hx
      go_upto_block 2 with fail
      go_cut [5] (fun s5 W => ∃ (k : Nat) (V1 : World), V1 = W ∧ k ≤ i ∧ s5 = .int .i64 k ∧ Hid (Pl.ins x s = s.take k ++ [x] ++ s.drop k) ∧ Hid (Below W0.heap.size W0 V1))
      case first =>
        go_wp2_with fail
        go_loopg [5] i (fun gk s5 W => ∃ (k q : Nat), k + gk = i ∧ s5 = .int .i64 k ∧ W = W0.drewN q ∧ Hid (∀ (j : Nat) (y : Int), j < k → s[j]? = some y → y ≤ x))
        case atStart => exact ⟨0, 0, by omega, rfl, rfl, fun j y hj => by omega⟩
        case round =>
          obtain ⟨k, q, hkg, rfl, rfl, HE⟩ := hrel
          have HW : Hid (∀ m, (W0.drewN q).drewN m = W0.drewN (q + m)) := fun m => by simp
          have HBQ : Hid (∀ m, Below W0.heap.size W0 ((W0.drewN q).drewN m)) := fun m => by rw [HW.out]; exact ⟨rfl, rfl, rfl, Nat.le_refl _, fun _ _ => rfl⟩
          have hx1 : (W0.drewN q).cell? (ad.add i) = some (.int .i64 x) := by simpa using hc0
          have i0 : (i : Int) < (n : Int) := by omega
          by_cases hki : k < i
          · obtain ⟨gi, rfl⟩ : ∃ j, gk = j + 1 := ⟨gk - 1, by omega⟩
            obtain ⟨y, hy⟩ := mlist_at s k (by rw [HLS.out]; exact hki)
            obtain ⟨ad2, HAD2, hd0⟩ := HBI.out.1 k y hy
            have hd1 : (W0.drewN q).cell? (ad2.add k) = some (.int .i64 y) := by simpa using hd0
            have i1 : (k : Int) < (i : Int) := by omega
            have j1 : decide ((k : Int) < (i : Int)) = true := decide_eq_true i1
            have j2 : decide (k < i) = true := decide_eq_true hki
            have HA2 := Lib.hid HAD2
            by_cases hyx : y ≤ x
            · have j3 : decide (y ≤ x) = true := decide_eq_true hyx
              have HE2 : Hid (∀ (j : Nat) (z : Int), j < k + 1 → s[j]? = some z → z ≤ x) := fun j z hj hz => by
                by_cases h : j < k
                · exact HE.out j z h hz
                · obtain rfl : j = k := by omega
                  rw [hy] at hz
                  obtain rfl := Option.some.inj hz
                  exact hyx
              clear hy hd0 hc0 HBI HO HAD2
              obtain rfl := HA2.out
              generalize W0.drewN q = W at *
              go_wp2
              go_quiet (fail)
              go_wp2
              go_roundg gi
              case measure => omega
              case rel => exact ⟨k + 1, _, by omega, by first | rfl | go_num, HW.out _, HE2.out⟩
            · have j3 : decide (y ≤ x) = false := decide_eq_false hyx
              have HS := Lib.hid (Pl.ins_at HE.out (fun z hz => by rw [hy] at hz; obtain rfl := Option.some.inj hz; exact hyx) (by rw [HLS.out]; omega))
              clear hy hd0 hc0 HBI HO HAD2
              obtain rfl := HA2.out
              generalize W0.drewN q = W at *
              go_wp2
              go_quiet (fail)
              go_wp2
              go_meet
              case rel => exact ⟨k, _, rfl, by omega, rfl, HS.out, HBQ.out _⟩
          · obtain rfl : k = i := by omega
            have j1 : decide ((k : Int) < (k : Int)) = false := decide_eq_false (by omega)
            have HS := Lib.hid (Pl.ins_at HE.out (fun z hz => by have := (List.getElem?_eq_some_iff.1 hz).1; rw [HLS.out] at this; omega) (by rw [HLS.out]; exact Nat.le_refl _))
            clear hc0
            generalize W0.drewN q = W at *
            go_wp2
            go_quiet (fail)
            go_wp2
            go_meet
            case rel => exact ⟨k, _, rfl, by omega, rfl, HS.out, HBQ.out _⟩
      case rest =>
        obtain ⟨k, V1, rfl, hki, rfl, HS, HV1⟩ := hcut
        have HB1 := Lib.hid (below_next HK.out HV1.out)
        have HXC : Hid (∀ U, Below V1.heap.size V1 U → U.cell? (ad.add i) = some (.int .i64 x)) := fun U hU => (Below.cell (below_next HV1.out hU) (lt_of_cell hc0)).trans hc0
        have HR := Lib.hid (HBI.out.1.below HV1.out)
        have HGV : Hid (w.heap.size ≤ V1.heap.size) := HB1.out.size
        obtain ⟨X2, c2, hsl2, hrow2⟩ := back_is B i cc k HBI.out.2.1 hki
        have hsl1 := front_is B i cc k HBI.out.2.1 hki
        obtain ⟨m2, hm2⟩ : ∃ m, i - k = m := ⟨_, rfl⟩
        rw [hm2] at hsl2
        have HR1 : Hid (IntsAt V1 B (s.take k)) := HR.out.take' k
        have HR2 : Hid (IntsAt V1 X2 (s.drop k)) := hrow2 V1 s HLS.out HR.out
        have HL1 : Hid ((s.take k).length = k) := by unfold Hid; rw [List.length_take, HLS.out]; omega
        have HL2 : Hid ((s.drop k).length = m2) := by unfold Hid; rw [List.length_drop, HLS.out]; exact hm2
        have HL3 : Hid ((s.take k ++ [x]).length = k + 1) := by unfold Hid; rw [List.length_append, HL1.out]; rfl
        have HL4 : Hid ((s.take k ++ [x] ++ s.drop k).length = i + 1) := by unfold Hid; rw [List.length_append, HL3.out, HL2.out]; omega
        have HI1 : Hid (i ≤ 20000) := by unfold Hid; omega
        have HA1 : Hid (∃ v' w', (Builtin.append_ #[29, 29] 29 #[.slice (some ⟨V1.heap.size, 0, none⟩) 0 0, .slice B k cc]).run Try.prog (V1.alloc (.cells #[] 3)).drew = .ok v' w' ∧ ∃ A' c', v' = .slice A' k c' ∧ Hid (J1 V1 none x (s.take k) (.slice A' k c') w')) := by
          obtain ⟨v', w', h1, A', c', e, h2⟩ := (J1.a V1 x).app B k cc (s.take k) HL1.out HR1.out (by simp; omega) k (by simpa using HL1.out)
          subst e
          exact ⟨_, w', h1, A', c', rfl, h2⟩
        have HBB1 : Hid (∃ v' w', (Builtin.append_ #[29, 29] 29 #[.slice (some ⟨V1.heap.size, 0, none⟩) 0 0, .slice B k cc]).run Try.prog ((V1.alloc (.cells #[] 3)).alloc (.cells #[.int .i64 x] 3)).drew = .ok v' w' ∧ ∃ A' c', v' = .slice A' k c' ∧ Hid (J1 V1 (some (V1.heap.size + 1)) x (s.take k) (.slice A' k c') w')) := by
          obtain ⟨v', w', h1, A', c', e, h2⟩ := (J1.b V1 x).app B k cc (s.take k) HL1.out HR1.out (by simp; omega) k (by simpa using HL1.out)
          subst e
          exact ⟨_, w', h1, A', c', rfl, h2⟩
        have HC1 : Hid (∃ v' w', (Builtin.append_ #[29, 29] 29 #[.slice (some ⟨V1.heap.size + 1, 0, none⟩) 0 0, .slice B k cc]).run Try.prog ((V1.alloc (.cells #[.int .i64 x] 3)).alloc (.cells #[] 3)).drew = .ok v' w' ∧ ∃ A' c', v' = .slice A' k c' ∧ Hid (J1 V1 (some V1.heap.size) x (s.take k) (.slice A' k c') w')) := by
          obtain ⟨v', w', h1, A', c', e, h2⟩ := (J1.c V1 x).app B k cc (s.take k) HL1.out HR1.out (by simp; omega) k (by simpa using HL1.out)
          subst e
          exact ⟨_, w', h1, A', c', rfl, h2⟩
        have HONE : Hid (∀ w g A c, J1 V1 (some g) x (s.take k) (.slice A k c) w → ∃ v' w', (Builtin.append_ #[29, 29] 29 #[.slice A k c, .slice (some ⟨g, 0, none⟩) 1 1]).run Try.prog w = .ok v' w' ∧ ∃ A' c', v' = .slice A' (k + 1) c' ∧ Hid (J1 V1 none x (s.take k ++ [x]) (.slice A' (k + 1) c') w')) := fun w g A c h => by
          obtain ⟨v', w', h1, A', c', e, h2⟩ := h.one (by rw [HL1.out]; have := HI1.out; omega) (k + 1) HL3.out
          subst e
          exact ⟨_, w', h1, A', c', rfl, h2⟩
        have HTHR : Hid (∀ w A c, J1 V1 none x (s.take k ++ [x]) (.slice A (k + 1) c) w → ∃ v' w', (Builtin.append_ #[29, 29] 29 #[.slice A (k + 1) c, .slice X2 m2 c2]).run Try.prog w = .ok v' w' ∧ ∃ A' c', v' = .slice A' (i + 1) c' ∧ Hid (J1 V1 none x (s.take k ++ [x] ++ s.drop k) (.slice A' (i + 1) c') w')) := fun w A c h => by
          obtain ⟨v', w', h1, A', c', e, h2⟩ := h.app X2 m2 c2 (s.drop k) HL2.out HR2.out (by rw [HL3.out]; have := HI1.out; omega) (i + 1) HL4.out
          subst e
          exact ⟨_, w', h1, A', c', rfl, h2⟩
        have y0 := HXC.out V1 (Below.refl _ _)
        have ya := HXC.out (V1.alloc (.cells #[] 3)) (below_alloc _ _)
        clear hc0 hrow2 hm2
        go_upto_region 8 with fail
        go_region_law (first
          | (refine step_append_w w6 (by with_reducible rfl) (by rfl) (.tmp 40) (.tmp 43) 29 29 29 (by rfl) (by rfl) (.slice A6 (k + 1) c6) (.slice X2 m2 c2) (by rfl) (by rfl) _ HT3.out ?_
             rintro v3 w7 ⟨A7, c7, rfl, HF⟩)
          | (refine step_append_w (w5.alloc (.cells #[.int .i64 x] 3)) (by with_reducible rfl) (by rfl) (.tmp 34) (.tmp 39) 29 29 29 (by rfl) (by rfl) (.slice A5 k c5) (.slice (some ⟨w5.heap.size, 0, none⟩) 1 1) (by rfl) (by rfl) _ HA2.out ?_
             rintro v2 w6 ⟨A6, c6, rfl, HF2⟩
             have HT3 := Lib.hid (HTHR.out _ _ _ HF2.out))
          | (refine step_append_w w5 (by with_reducible rfl) (by rfl) (.tmp 34) (.tmp 39) 29 29 29 (by rfl) (by rfl) (.slice A5 k c5) (.slice (some ⟨V1.heap.size + 1, 0, none⟩) 1 1) (by rfl) (by rfl) _ HBB2.out ?_
             rintro v2 w6 ⟨A6, c6, rfl, HF2⟩
             have HT3 := Lib.hid (HTHR.out _ _ _ HF2.out))
          | (refine step_append_w w5 (by with_reducible rfl) (by rfl) (.tmp 34) (.tmp 39) 29 29 29 (by rfl) (by rfl) (.slice A5 k c5) (.slice (some ⟨V1.heap.size, 0, none⟩) 1 1) (by rfl) (by rfl) _ HC2.out ?_
             rintro v2 w6 ⟨A6, c6, rfl, HF2⟩
             have HT3 := Lib.hid (HTHR.out _ _ _ HF2.out))
          | (refine step_append_w ((V1.alloc (.cells #[] 3)).drew) (by with_reducible rfl) (by rfl) (.tmp 30) (.tmp 33) 29 29 29 (by rfl) (by rfl) (.slice (some ⟨V1.heap.size, 0, none⟩) 0 0) (.slice B k cc) (by rfl) (by rfl) _ HA1.out ?_
             rintro v1 w5 ⟨A5, c5, rfl, HF1⟩
             have HA2 := Lib.hid (HONE.out _ _ _ _ HF1.out.late)
             have y5 := HXC.out w5 HF1.out.bel)
          | (refine step_append_w (((V1.alloc (.cells #[] 3)).alloc (.cells #[.int .i64 x] 3)).drew) (by with_reducible rfl) (by rfl) (.tmp 30) (.tmp 33) 29 29 29 (by rfl) (by rfl) (.slice (some ⟨V1.heap.size, 0, none⟩) 0 0) (.slice B k cc) (by rfl) (by rfl) _ HBB1.out ?_
             rintro v1 w5 ⟨A5, c5, rfl, HF1⟩
             have HBB2 := Lib.hid (HONE.out _ _ _ _ HF1.out))
          | (refine step_append_w (((V1.alloc (.cells #[.int .i64 x] 3)).alloc (.cells #[] 3)).drew) (by with_reducible rfl) (by rfl) (.tmp 30) (.tmp 33) 29 29 29 (by rfl) (by rfl) (.slice (some ⟨V1.heap.size + 1, 0, none⟩) 0 0) (.slice B k cc) (by rfl) (by rfl) _ HC1.out ?_
             rintro v1 w5 ⟨A5, c5, rfl, HF1⟩
             have HC2 := Lib.hid (HONE.out _ _ _ _ HF1.out)))
        all_goals
          clear y0 ya hsl1 hsl2
          go_wp2
          go_roundg go
          case measure => omega
          case rel => exact ⟨i + 1, c7, A7, _, rfl, by omega, rfl, by first | rfl | go_num, below_next HB1.out HF.out.bel, by rw [HINS.out, HS.out]; exact HF.out.own.lower HGV.out⟩
    · obtain rfl : i = n := by omega
      have HALL : Hid (l.take i = l) := by unfold Hid; rw [List.take_of_length_le (by rw [HN.out]; exact Nat.le_refl _)]
      go_wp2_with fail
      go_ret
      rw [HALL.out] at HBI HLS
      exact ⟨B, cc, by rw [HLS.out]; rfl, by rw [HLS.out]; exact HBI.out.2.1, HK.out, HBI.out.1, HBI.out.2.2⟩
end Go.Proofs.Ytbacakblboodeaa
