/- Contracts of package plan: Served, trucks, twoTheSame. -/
import Derived.Test.YtbacakblboodeaaPlanMem
namespace Go.Proofs.Ytbacakblboodeaa
open Go.RowKit
set_option linter.unusedVariables false
set_option maxRecDepth 100000

set_option maxHeartbeats 2000000 in
theorem served_b (p : Pd) (w : World) (hp : PAt w p) :
    Calls Try.prog 17 #[.agg #[.slice p.rA p.rm p.rc, .slice p.uA p.um p.uc]] w (NewI w (Pl.servedS (ros p.rs))) := by
  have HP := Lib.hid hp
  have HX := Lib.hid (PX.new hp)
  have HB0 : Hid (Below w.heap.size w (w.alloc (.cells #[.slice p.rA p.rm p.rc, .slice p.uA p.um p.uc] 45))) := below_alloc _ _
  have HG : Hid (w.heap.size ≤ w.heap.size + 1) := by unfold Hid; omega
  have HGW : Hid (w.heap.size + 1 ≤ (w.alloc (.cells #[.slice p.rA p.rm p.rc, .slice p.uA p.um p.uc] 45)).heap.size) := by unfold Hid; simp
  have hrm := hp.r2
  clear hp
  go_enter Try.func17, Try.ntmps17
  have x0 := HX.out.c0
  go_wp2_with fail
  generalize w.alloc (.cells #[.slice p.rA p.rm p.rc, .slice p.uA p.um p.uc] 45) = V at *
  generalize w.heap.size + 1 = g at *
  clear x0 HX
  go_loopg [3, 9] p.rm (fun gk s3 s9 W => ∃ (k m c : Nat) (A : Option Addr) (W0 : World), W0 = W ∧ k + gk = p.rm ∧ s3 = .slice A m c ∧ s9 = .int .i64 k ∧ Hid (Below w.heap.size w W0 ∧ g ≤ W0.heap.size) ∧ Hid (OwnI W0 g (.slice A m c) (Pl.stops ((ros p.rs).take k))))
  case atStart => exact ⟨0, 0, 0, none, _, rfl, by omega, rfl, rfl, ⟨HB0.out, HGW.out⟩, ownI_nil _ _⟩
  case round =>
    obtain ⟨k, m, c, A, W0, rfl, hkg, rfl, rfl, HK, HO⟩ := hrel
    by_cases hlt : k < p.rm
    · obtain ⟨gk, rfl⟩ : ∃ j, gk = j + 1 := ⟨gk - 1, by omega⟩
      obtain ⟨r, hr⟩ := mlist_at p.rs k (by rw [HP.out.rl]; exact hlt)
      obtain ⟨ad, hrA, hc, hra⟩ := (HP.out.below HK.out.1).at_ hr
      obtain ⟨c0, c1⟩ := hc
      have i2 : (k : Int) < (p.rm : Int) := by omega
      have HST := Lib.hid (Pl.stops_take (ros_at hr))
      have hle := Pl.stops_le (ros p.rs) (k + 1)
      have htot := HP.out.tot
      obtain ⟨M, hM⟩ : ∃ M, (Pl.stops ((ros p.rs).take k) ++ r.ro.st).length = M := ⟨_, rfl⟩
      have HA := Lib.hid (owni_next (below_more HK.out.1 (.cells #[.int .i64 r.tr, .slice r.sA r.sm r.sc] 78)) HG.out (Nat.le_trans HK.out.2 (below_alloc W0 _).size) (HO.out.below (below_alloc W0 (.cells #[.int .i64 r.tr, .slice r.sA r.sm r.sc] 78))) r.sA r.sm r.sc r.st hra.sl (hra.st.below (below_alloc W0 _)) (by
        have e : (Pl.stops ((ros p.rs).take (k + 1))).length = (Pl.stops ((ros p.rs).take k)).length + r.sm := by rw [HST.out, List.length_append]; rw [← hra.sl]; rfl
        omega) M hM)
      have HRA := Lib.hid hrA
      clear hr hM hra hle htot hrA
      generalize p.rA = rA at *
      obtain rfl := HRA.out
      go_wp2_with (at_builtin; refine wpList_append_any rfl (.tmp 13) (.tmp 15) 29 29 rfl _ _ rfl rfl _ HA.out ?_; intro v2 w2 hap; obtain ⟨A2, c2, rfl, HAP⟩ := hap)
      go_roundg gk
      case measure => omega
      case rel => exact ⟨k + 1, M, c2, A2, _, rfl, by omega, rfl, by first | rfl | go_num, ⟨HAP.out.2.1, HAP.out.2.2.1⟩, by rw [HST.out]; exact HAP.out.1⟩
    · have HALL : Hid ((ros p.rs).take k = ros p.rs) := List.take_of_length_le (by rw [ros_len, HP.out.rl]; omega)
      have hm : m ≤ 100000 := by
        obtain ⟨A', c', e, _⟩ := HO.out.ints
        injection e with _ e2 _
        have := Pl.stops_le (ros p.rs) k
        have := HP.out.tot
        omega
      have HC := Lib.hid (sort_own A m c _ W0 g HO.out HK.out.2 hm)
      go_wp2_with fail
      with_reducible refine HC.out.mono ?_
      rintro e w2 ⟨rfl, h2⟩
      go_wp2
      go_ret
      exact newi_sorted HG.out HK.out.1 (by rw [HALL.out]; rfl) h2.out

set_option maxHeartbeats 2000000 in
theorem trucks_b (p : Pd) (w : World) (hp : PAt w p) :
    Calls Try.prog 39 #[.agg #[.slice p.rA p.rm p.rc, .slice p.uA p.um p.uc]] w (NewI w (Pl.srt (Pl.trs (ros p.rs)))) := by
  have HP := Lib.hid hp
  have HX := Lib.hid (PX.new hp)
  have hrm := hp.r2
  have hmk : ∀ W : World, (Instr.makeSlice 29 (.int .i64 (p.rm : Int)) (.int .i64 (p.rm : Int))).run Try.prog W = .ok (.slice (some ⟨W.heap.size, 0, none⟩) p.rm p.rm) (W.alloc (.cells (Array.replicate p.rm (Value.int .i64 0)) 3)) := make_ints p.rm (by omega)
  have HLT : Hid ((Pl.trs (ros p.rs)).length = p.rm) := by show (List.map _ (List.map _ _)).length = _; rw [List.length_map, List.length_map]; exact hp.rl
  have HS0 : Hid (Below w.heap.size w ((w.alloc (.cells #[.slice p.rA p.rm p.rc, .slice p.uA p.um p.uc] 45)).alloc (.cells (Array.replicate p.rm (Value.int .i64 0)) 3)) ∧ NumI ((w.alloc (.cells #[.slice p.rA p.rm p.rc, .slice p.uA p.um p.uc] 45)).alloc (.cells (Array.replicate p.rm (Value.int .i64 0)) 3)) (w.heap.size + 1) (filled (Pl.trs (ros p.rs)) p.rm 0)) := by
    refine ⟨below_more (below_alloc _ _) _, ?_⟩
    rw [filled_none]; unfold NumI; rw [arr_zeros, size_one w (.cells #[.slice p.rA p.rm p.rc, .slice p.uA p.um p.uc] 45)]
    exact Box.new _ _ _
  have HG : Hid (w.heap.size ≤ w.heap.size + 1) := by unfold Hid; omega
  have x0 := HX.out.c0
  have x0' : ((w.alloc (.cells #[.slice p.rA p.rm p.rc, .slice p.uA p.um p.uc] 45)).alloc (.cells (Array.replicate p.rm (Value.int .i64 0)) 3)).cell? ⟨w.heap.size, 0, none⟩ = some (.slice p.rA p.rm p.rc) := (HX.out.below (below_alloc _ _)).c0
  clear hp
  go_enter Try.func39, Try.ntmps39
  go_wp2_with fail
  generalize (w.alloc (.cells #[.slice p.rA p.rm p.rc, .slice p.uA p.um p.uc] 45)).alloc (.cells (Array.replicate p.rm (Value.int .i64 0)) 3) = V at *
  generalize w.heap.size + 1 = g at *
  clear x0 x0' HX hmk
  go_loopg [13] p.rm (fun gk s13 W => ∃ (k : Nat) (W0 : World), W0 = W ∧ k + gk = p.rm ∧ s13 = .int .i64 k ∧ Hid (Below w.heap.size w W0) ∧ Hid (NumI W0 g (filled (Pl.trs (ros p.rs)) p.rm k)))
  case atStart => exact ⟨0, _, rfl, by omega, rfl, HS0.out.1, HS0.out.2⟩
  case round =>
    obtain ⟨k, W0, rfl, hkg, rfl, HK, HO⟩ := hrel
    by_cases hlt : k < p.rm
    · obtain ⟨gk, rfl⟩ : ∃ j, gk = j + 1 := ⟨gk - 1, by omega⟩
      obtain ⟨r, hr⟩ := mlist_at p.rs k (by rw [HP.out.rl]; exact hlt)
      obtain ⟨ad, hrA, hc, hra⟩ := (HP.out.below HK.out).at_ hr
      obtain ⟨c0, c1⟩ := hc
      have i2 : (k : Int) < (p.rm : Int) := by omega
      have HSET : Hid ((filled (Pl.trs (ros p.rs)) p.rm k).set k r.tr = filled (Pl.trs (ros p.rs)) p.rm (k + 1)) := filled_set _ _ _ _ HLT.out (by show (List.map _ _)[k]? = _; rw [List.getElem?_map, ros_at hr]; rfl)
      have HN2 := Lib.hid (Box.below HO.out (below_alloc W0 (.cells #[.int .i64 r.tr, .slice r.sA r.sm r.sc] 78)))
      obtain ⟨z, z0⟩ := NumI.cell HN2.out (k := k) (by rw [filled_len _ _ _ HLT.out (by omega)]; exact hlt)
      have z1 := NumI.fz HN2.out k
      have HB2 := Lib.hid (below_more HK.out (.cells #[.int .i64 r.tr, .slice r.sA r.sm r.sc] 78))
      have HRA := Lib.hid hrA
      clear hr hra hrA
      generalize p.rA = rA at *
      obtain rfl := HRA.out
      go_wp2_with fail
      go_roundg gk
      case measure => omega
      case rel => exact ⟨k + 1, _, rfl, by omega, by first | rfl | go_num, HB2.out.setCell (p := ⟨g, k, none⟩) HG.out _, by rw [← HSET.out]; exact NumI.set HN2.out k _⟩
    · have hk : k = p.rm := by omega
      subst hk
      have HO2 := HO.out
      rw [filled_all _ _ HLT.out] at HO2
      have HC := Lib.hid (sort_own (some ⟨g, 0, none⟩) p.rm p.rm _ W0 g (NumI.own HO2 HLT.out (Nat.le_refl _) (by omega)) (Nat.le_of_lt (Box.lt HO.out)) (by omega))
      clear HO2
      go_wp2_with fail
      with_reducible refine HC.out.mono ?_
      rintro e w2 ⟨rfl, h2⟩
      go_wp2
      go_ret
      exact newi_sorted HG.out HK.out rfl h2.out

set_option maxHeartbeats 2000000 in
theorem dup_b (A : Option Addr) (n c : Nat) (l : List Int) (w : World) (r : Bool) (hr : Pl.dupB l = r) (hn : l.length = n) (hn2 : n ≤ 100000) (h : IntsAt w A l) :
    Calls Try.prog 38 #[.slice A n c] w fun e w' => e = .returned (.bool r) ∧ Hid (Below w.heap.size w w') := by
  have HBQ : Hid (∀ q, Below w.heap.size w (w.drewN q)) := fun q => ⟨rfl, rfl, rfl, Nat.le_refl _, fun _ _ => rfl⟩
  have HL := Lib.hid h
  have HN := Lib.hid hn
  have HY : Hid (∀ (k : Nat) (x : Int), l[k]? = some x → l[k + 1]? = some x → r = true) := fun k x h1 h2 => by rw [← hr]; exact Pl.dup_at h1 h2
  have HR : Hid ((∀ (k : Nat) (x y : Int), l[k]? = some x → l[k + 1]? = some y → x ≠ y) → r = false) := fun h => by rw [← hr]; exact Pl.dup_none h
  clear h hn hr
  go_enter Try.func38, Try.ntmps38
  go_wp2_with fail
  go_loopg [2, 6] n (fun gk s2 s6 W => ∃ (k q : Nat), k + gk = n ∧ s2 = .bool false ∧ s6 = .int .i64 k ∧ W = w.drewN q ∧ Hid (∀ (i : Nat) (x y : Int), i + 1 < k → l[i]? = some x → l[i + 1]? = some y → x ≠ y))
  case atStart => exact ⟨0, 0, by omega, rfl, rfl, rfl, fun i x y hi => by omega⟩
  case round =>
    obtain ⟨k, q, hkg, rfl, rfl, rfl, HK⟩ := hrel
    have HW : Hid (∀ m, (w.drewN q).drewN m = w.drewN (q + m)) := fun m => by simp
    by_cases hlt : k < n
    · obtain ⟨gk, rfl⟩ : ∃ j, gk = j + 1 := ⟨gk - 1, by omega⟩
      obtain ⟨y, hy⟩ := mlist_at l k (by rw [HN.out]; exact hlt)
      obtain ⟨ad, rfl, hc0⟩ := HL.out k y hy
      have i1 : (0 : Int) ≤ (k : Int) := by omega
      have i2 : (k : Int) < (n : Int) := by omega
      by_cases hk0 : k = 0
      · subst hk0
        have HK2 : Hid (∀ (i : Nat) (x y : Int), i + 1 < 0 + 1 → l[i]? = some x → l[i + 1]? = some y → x ≠ y) := fun i x y hi => by omega
        clear hy hc0
        generalize w.drewN q = W at *
        go_wp2
        go_quiet (fail)
        go_wp2
        go_roundg gk
        case measure => omega
        case rel => exact ⟨0 + 1, _, by omega, rfl, by first | rfl | go_num, HW.out _, HK2.out⟩
      · obtain ⟨j, hj⟩ : ∃ j, k = j + 1 := ⟨k - 1, by omega⟩
        obtain ⟨x, hx⟩ := mlist_at l j (by rw [HN.out]; omega)
        obtain ⟨ad', e', hd0⟩ := HL.out j x hx
        obtain rfl := Option.some.inj e'
        have hc1 : (w.drewN q).cell? (ad.add k) = some (.int .i64 y) := by simpa using hc0
        have hd1 : (w.drewN q).cell? (ad.add j) = some (.int .i64 x) := by simpa using hd0
        have j1 : (k : Int) - 1 = (j : Int) := by omega
        have j2 : IntKind.i64.wrap (j : Int) = (j : Int) := IntWalk.i64_in _ (by omega)
        have j3 : decide ((0 : Int) < (k : Int)) = true := decide_eq_true (by omega)
        have j6 : decide (0 < k) = true := decide_eq_true (by omega)
        have j7 : 0 < k := by omega
        have j4 : (0 : Int) ≤ (j : Int) := by omega
        have j5 : (j : Int) < (n : Int) := by omega
        have HJ := Lib.hid hj
        clear e'
        by_cases hxy : y = x
        · have heq : (y == x) = true := beq_iff_eq.2 hxy
          have HF2 := Lib.hid (HY.out j x hx (by rw [← hj, hy, hxy]))
          clear hx hy hxy hc0 hd0 hj hk0
          generalize w.drewN q = W at *
          go_wp2
          go_quiet (fail)
          go_wp2
          go_ret
          exact ⟨by rw [HF2.out]; rfl, by rw [HW.out]; exact HBQ.out _⟩
        · have heq : (y == x) = false := beq_eq_false_iff_ne.2 hxy
          have HK2 : Hid (∀ (i : Nat) (u v : Int), i + 1 < k + 1 → l[i]? = some u → l[i + 1]? = some v → u ≠ v) := fun i u v hi hu hv => by
            by_cases h : i + 1 < k
            · exact HK.out i u v h hu hv
            · obtain rfl : i = j := by omega
              rw [hx] at hu
              rw [← hj, hy] at hv
              obtain rfl := Option.some.inj hu
              obtain rfl := Option.some.inj hv
              exact fun e => hxy e.symm
          clear hx hy hxy hc0 hd0 hj hk0
          generalize w.drewN q = W at *
          go_wp2
          go_quiet (fail)
          go_wp2
          go_roundg gk
          case measure => omega
          case rel => exact ⟨k + 1, _, by omega, rfl, by first | rfl | go_num, HW.out _, HK2.out⟩
    · have HR2 := Lib.hid (HR.out fun i x y h1 h2 => HK.out i x y (by have := (List.getElem?_eq_some_iff.1 h2).1; rw [HN.out] at this; omega) h1 h2)
      have hk : k = n := by omega
      subst hk
      go_wp2
      go_ret
      exact ⟨by rw [HR2.out]; rfl, HBQ.out _⟩
end Go.Proofs.Ytbacakblboodeaa
