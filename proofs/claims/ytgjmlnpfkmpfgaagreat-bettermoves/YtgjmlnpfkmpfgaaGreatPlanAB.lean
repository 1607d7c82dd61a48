/- Texts joined: Contracts of package plan: Served, trucks, twoTheSame. Contracts of package plan: tripCosts, Rest. -/
import Derived.Test.YtgjmlnpfkmpfgaaGreatPlanMem
section
/-! Contracts of package plan: Served, trucks, twoTheSame. -/
namespace Go.Proofs.YtgjmlnpfkmpfgaaGreat
open Go.RowKit
set_option linter.unusedVariables false
set_option maxRecDepth 100000

set_option maxHeartbeats 2000000 in
theorem served_b (p : Pd) (w : World) (hp : PAt w p) :
    Calls Tryz.prog 18 #[.agg #[.slice p.rA p.rm p.rc, .slice p.uA p.um p.uc]] w (NewI w (Pl.servedS (ros p.rs))) := by
  have HP := Lib.hid hp
  have HX := Lib.hid (PX.new hp)
  have HB0 : Hid (Below w.heap.size w (w.alloc (.cells #[.slice p.rA p.rm p.rc, .slice p.uA p.um p.uc] 32))) := below_alloc _ _
  have HG : Hid (w.heap.size ≤ w.heap.size + 1) := by unfold Hid; omega
  have HGW : Hid (w.heap.size + 1 ≤ (w.alloc (.cells #[.slice p.rA p.rm p.rc, .slice p.uA p.um p.uc] 32)).heap.size) := by unfold Hid; simp
  have hrm := hp.r2
  clear hp
  go_enter Tryz.func18, Tryz.ntmps18
  have x0 := HX.out.c0
  go_wp2_with fail
  generalize w.alloc (.cells #[.slice p.rA p.rm p.rc, .slice p.uA p.um p.uc] 32) = V at *
  generalize w.heap.size + 1 = g at *
  clear x0 HX
  go_loopg [3, 9] p.rm (fun gk s3 s9 W => ∃ (k m c : Nat) (A : Option Addr) (W0 : World), W0 = W ∧ k + gk = p.rm ∧ s3 = .slice A m c ∧ s9 = .int .i64 k ∧ Hid (Below w.heap.size w W0 ∧ g ≤ W0.heap.size) ∧ Hid (OwnI W0 g (.slice A m c) (Pl.stops ((ros p.rs).take k))))
  case atStart => exact ⟨0, 0, 0, none, _, rfl, by omega, rfl, rfl, ⟨HB0.out, HGW.out⟩, ownI_nil _ _⟩
  case round =>
    obtain ⟨k, m, c, A, W0, rfl, hkg, rfl, rfl, HK, HO⟩ := hrel
    by_cases hlt : k < p.rm
    · obtain ⟨gk, rfl⟩ : ∃ j, gk = j + 1 := ⟨gk - 1, by omega⟩
      obtain ⟨r, hr⟩ := mlist_at p.rs k (by rw [HP.out.rl]; exact hlt)
      obtain ⟨ad, hrA, hc, hra⟩ := (HP.out.below HK.out.1).at_ hr
      obtain ⟨c0, c1⟩ := hc
      have i2 : (k : Int) < (p.rm : Int) := by omega
      have HST := Lib.hid (Pl.stops_take (ros_at hr))
      have hle := Pl.stops_le (ros p.rs) (k + 1)
      have htot := HP.out.tot
      obtain ⟨M, hM⟩ : ∃ M, (Pl.stops ((ros p.rs).take k) ++ r.ro.st).length = M := ⟨_, rfl⟩
      have HA := Lib.hid (owni_next (below_more HK.out.1 (.cells #[.int .i64 r.tr, .slice r.sA r.sm r.sc] 49)) HG.out (Nat.le_trans HK.out.2 (below_alloc W0 _).size) (HO.out.below (below_alloc W0 (.cells #[.int .i64 r.tr, .slice r.sA r.sm r.sc] 49))) r.sA r.sm r.sc r.st hra.sl (hra.st.below (below_alloc W0 _)) (by
        have e : (Pl.stops ((ros p.rs).take (k + 1))).length = (Pl.stops ((ros p.rs).take k)).length + r.sm := by rw [HST.out, List.length_append]; rw [← hra.sl]; rfl
        omega) M hM)
      have HRA := Lib.hid hrA
      clear hr hM hra hle htot hrA
      generalize p.rA = rA at *
      obtain rfl := HRA.out
      go_wp2_with (at_builtin; refine wpList_append_any rfl (.tmp 13) (.tmp 15) 30 30 rfl _ _ rfl rfl _ HA.out ?_; intro v2 w2 hap; obtain ⟨A2, c2, rfl, HAP⟩ := hap)
      go_roundg gk
      case measure => omega
      case rel => exact ⟨k + 1, M, c2, A2, _, rfl, by omega, rfl, by first | rfl | go_num, ⟨HAP.out.2.1, HAP.out.2.2.1⟩, by rw [HST.out]; exact HAP.out.1⟩
    · have HALL : Hid ((ros p.rs).take k = ros p.rs) := List.take_of_length_le (by rw [ros_len, HP.out.rl]; omega)
      have hm : m ≤ 100000 := by
        obtain ⟨A', c', e, _⟩ := HO.out.ints
        injection e with _ e2 _
        have := Pl.stops_le (ros p.rs) k
        have := HP.out.tot
        omega
      have HC := Lib.hid (sort_own A m c _ W0 g HO.out HK.out.2 hm)
      go_wp2_with fail
      with_reducible refine HC.out.mono ?_
      rintro e w2 ⟨rfl, h2⟩
      go_wp2
      go_ret
      exact newi_sorted HG.out HK.out.1 (by rw [HALL.out]; rfl) h2.out

set_option maxHeartbeats 2000000 in
theorem trucks_b (p : Pd) (w : World) (hp : PAt w p) :
    Calls Tryz.prog 33 #[.agg #[.slice p.rA p.rm p.rc, .slice p.uA p.um p.uc]] w (NewI w (Pl.srt (Pl.trs (ros p.rs)))) := by
  have HP := Lib.hid hp
  have HX := Lib.hid (PX.new hp)
  have hrm := hp.r2
  have hmk : ∀ W : World, (Instr.makeSlice 30 (.int .i64 (p.rm : Int)) (.int .i64 (p.rm : Int))).run Tryz.prog W = .ok (.slice (some ⟨W.heap.size, 0, none⟩) p.rm p.rm) (W.alloc (.cells (Array.replicate p.rm (Value.int .i64 0)) 3)) := make_ints p.rm (by omega)
  have HLT : Hid ((Pl.trs (ros p.rs)).length = p.rm) := by show (List.map _ (List.map _ _)).length = _; rw [List.length_map, List.length_map]; exact hp.rl
  have HS0 : Hid (Below w.heap.size w ((w.alloc (.cells #[.slice p.rA p.rm p.rc, .slice p.uA p.um p.uc] 32)).alloc (.cells (Array.replicate p.rm (Value.int .i64 0)) 3)) ∧ NumI ((w.alloc (.cells #[.slice p.rA p.rm p.rc, .slice p.uA p.um p.uc] 32)).alloc (.cells (Array.replicate p.rm (Value.int .i64 0)) 3)) (w.heap.size + 1) (filled (Pl.trs (ros p.rs)) p.rm 0)) := by
    refine ⟨below_more (below_alloc _ _) _, ?_⟩
    rw [filled_none]; unfold NumI; rw [arr_zeros, size_one w (.cells #[.slice p.rA p.rm p.rc, .slice p.uA p.um p.uc] 32)]
    exact Box.new _ _ _
  have HG : Hid (w.heap.size ≤ w.heap.size + 1) := by unfold Hid; omega
  have x0 := HX.out.c0
  have x0' : ((w.alloc (.cells #[.slice p.rA p.rm p.rc, .slice p.uA p.um p.uc] 32)).alloc (.cells (Array.replicate p.rm (Value.int .i64 0)) 3)).cell? ⟨w.heap.size, 0, none⟩ = some (.slice p.rA p.rm p.rc) := (HX.out.below (below_alloc _ _)).c0
  clear hp
  go_enter Tryz.func33, Tryz.ntmps33
  go_wp2_with fail
  generalize (w.alloc (.cells #[.slice p.rA p.rm p.rc, .slice p.uA p.um p.uc] 32)).alloc (.cells (Array.replicate p.rm (Value.int .i64 0)) 3) = V at *
  generalize w.heap.size + 1 = g at *
  clear x0 x0' HX hmk
  go_loopg [13] p.rm (fun gk s13 W => ∃ (k : Nat) (W0 : World), W0 = W ∧ k + gk = p.rm ∧ s13 = .int .i64 k ∧ Hid (Below w.heap.size w W0) ∧ Hid (NumI W0 g (filled (Pl.trs (ros p.rs)) p.rm k)))
  case atStart => exact ⟨0, _, rfl, by omega, rfl, HS0.out.1, HS0.out.2⟩
  case round =>
    obtain ⟨k, W0, rfl, hkg, rfl, HK, HO⟩ := hrel
    by_cases hlt : k < p.rm
    · obtain ⟨gk, rfl⟩ : ∃ j, gk = j + 1 := ⟨gk - 1, by omega⟩
      obtain ⟨r, hr⟩ := mlist_at p.rs k (by rw [HP.out.rl]; exact hlt)
      obtain ⟨ad, hrA, hc, hra⟩ := (HP.out.below HK.out).at_ hr
      obtain ⟨c0, c1⟩ := hc
      have i2 : (k : Int) < (p.rm : Int) := by omega
      have HSET : Hid ((filled (Pl.trs (ros p.rs)) p.rm k).set k r.tr = filled (Pl.trs (ros p.rs)) p.rm (k + 1)) := filled_set _ _ _ _ HLT.out (by show (List.map _ _)[k]? = _; rw [List.getElem?_map, ros_at hr]; rfl)
      have HN2 := Lib.hid (Box.below HO.out (below_alloc W0 (.cells #[.int .i64 r.tr, .slice r.sA r.sm r.sc] 49)))
      obtain ⟨z, z0⟩ := NumI.cell HN2.out (k := k) (by rw [filled_len _ _ _ HLT.out (by omega)]; exact hlt)
      have z1 := NumI.fz HN2.out k
      have HB2 := Lib.hid (below_more HK.out (.cells #[.int .i64 r.tr, .slice r.sA r.sm r.sc] 49))
      have HRA := Lib.hid hrA
      clear hr hra hrA
      generalize p.rA = rA at *
      obtain rfl := HRA.out
      go_wp2_with fail
      go_roundg gk
      case measure => omega
      case rel => exact ⟨k + 1, _, rfl, by omega, by first | rfl | go_num, HB2.out.setCell (p := ⟨g, k, none⟩) HG.out _, by rw [← HSET.out]; exact NumI.set HN2.out k _⟩
    · have hk : k = p.rm := by omega
      subst hk
      have HO2 := HO.out
      rw [filled_all _ _ HLT.out] at HO2
      have HC := Lib.hid (sort_own (some ⟨g, 0, none⟩) p.rm p.rm _ W0 g (NumI.own HO2 HLT.out (Nat.le_refl _) (by omega)) (Nat.le_of_lt (Box.lt HO.out)) (by omega))
      clear HO2
      go_wp2_with fail
      with_reducible refine HC.out.mono ?_
      rintro e w2 ⟨rfl, h2⟩
      go_wp2
      go_ret
      exact newi_sorted HG.out HK.out rfl h2.out

set_option maxHeartbeats 2000000 in
theorem dup_b (A : Option Addr) (n c : Nat) (l : List Int) (w : World) (r : Bool) (hr : Pl.dupB l = r) (hn : l.length = n) (hn2 : n ≤ 100000) (h : IntsAt w A l) :
    Calls Tryz.prog 32 #[.slice A n c] w fun e w' => e = .returned (.bool r) ∧ Hid (Below w.heap.size w w') := by
  have HBQ : Hid (∀ q, Below w.heap.size w (w.drewN q)) := fun q => ⟨rfl, rfl, rfl, Nat.le_refl _, fun _ _ => rfl⟩
  have HL := Lib.hid h
  have HN := Lib.hid hn
  have HY : Hid (∀ (k : Nat) (x : Int), l[k]? = some x → l[k + 1]? = some x → r = true) := fun k x h1 h2 => by rw [← hr]; exact Pl.dup_at h1 h2
  have HR : Hid ((∀ (k : Nat) (x y : Int), l[k]? = some x → l[k + 1]? = some y → x ≠ y) → r = false) := fun h => by rw [← hr]; exact Pl.dup_none h
  clear h hn hr
  go_enter Tryz.func32, Tryz.ntmps32
  go_wp2_with fail
  go_loopg [2, 6] n (fun gk s2 s6 W => ∃ (k q : Nat), k + gk = n ∧ s2 = .bool false ∧ s6 = .int .i64 k ∧ W = w.drewN q ∧ Hid (∀ (i : Nat) (x y : Int), i + 1 < k → l[i]? = some x → l[i + 1]? = some y → x ≠ y))
  case atStart => exact ⟨0, 0, by omega, rfl, rfl, rfl, fun i x y hi => by omega⟩
  case round =>
    obtain ⟨k, q, hkg, rfl, rfl, rfl, HK⟩ := hrel
    have HW : Hid (∀ m, (w.drewN q).drewN m = w.drewN (q + m)) := fun m => by simp
    by_cases hlt : k < n
    · obtain ⟨gk, rfl⟩ : ∃ j, gk = j + 1 := ⟨gk - 1, by omega⟩
      obtain ⟨y, hy⟩ := mlist_at l k (by rw [HN.out]; exact hlt)
      obtain ⟨ad, rfl, hc0⟩ := HL.out k y hy
      have i1 : (0 : Int) ≤ (k : Int) := by omega
      have i2 : (k : Int) < (n : Int) := by omega
      by_cases hk0 : k = 0
      · subst hk0
        have HK2 : Hid (∀ (i : Nat) (x y : Int), i + 1 < 0 + 1 → l[i]? = some x → l[i + 1]? = some y → x ≠ y) := fun i x y hi => by omega
        clear hy hc0
        generalize w.drewN q = W at *
        go_wp2
        go_quiet (fail)
        go_wp2
        go_roundg gk
        case measure => omega
        case rel => exact ⟨0 + 1, _, by omega, rfl, by first | rfl | go_num, HW.out _, HK2.out⟩
      · obtain ⟨j, hj⟩ : ∃ j, k = j + 1 := ⟨k - 1, by omega⟩
        obtain ⟨x, hx⟩ := mlist_at l j (by rw [HN.out]; omega)
        obtain ⟨ad', e', hd0⟩ := HL.out j x hx
        obtain rfl := Option.some.inj e'
        have hc1 : (w.drewN q).cell? (ad.add k) = some (.int .i64 y) := by simpa using hc0
        have hd1 : (w.drewN q).cell? (ad.add j) = some (.int .i64 x) := by simpa using hd0
        have j1 : (k : Int) - 1 = (j : Int) := by omega
        have j2 : IntKind.i64.wrap (j : Int) = (j : Int) := IntWalk.i64_in _ (by omega)
        have j3 : decide ((0 : Int) < (k : Int)) = true := decide_eq_true (by omega)
        have j6 : decide (0 < k) = true := decide_eq_true (by omega)
        have j7 : 0 < k := by omega
        have j4 : (0 : Int) ≤ (j : Int) := by omega
        have j5 : (j : Int) < (n : Int) := by omega
        have HJ := Lib.hid hj
        clear e'
        by_cases hxy : y = x
        · have heq : (y == x) = true := beq_iff_eq.2 hxy
          have HF2 := Lib.hid (HY.out j x hx (by rw [← hj, hy, hxy]))
          clear hx hy hxy hc0 hd0 hj hk0
          generalize w.drewN q = W at *
          go_wp2
          go_quiet (fail)
          go_wp2
          go_ret
          exact ⟨by rw [HF2.out]; rfl, by rw [HW.out]; exact HBQ.out _⟩
        · have heq : (y == x) = false := beq_eq_false_iff_ne.2 hxy
          have HK2 : Hid (∀ (i : Nat) (u v : Int), i + 1 < k + 1 → l[i]? = some u → l[i + 1]? = some v → u ≠ v) := fun i u v hi hu hv => by
            by_cases h : i + 1 < k
            · exact HK.out i u v h hu hv
            · obtain rfl : i = j := by omega
              rw [hx] at hu
              rw [← hj, hy] at hv
              obtain rfl := Option.some.inj hu
              obtain rfl := Option.some.inj hv
              exact fun e => hxy e.symm
          clear hx hy hxy hc0 hd0 hj hk0
          generalize w.drewN q = W at *
          go_wp2
          go_quiet (fail)
          go_wp2
          go_roundg gk
          case measure => omega
          case rel => exact ⟨k + 1, _, by omega, rfl, by first | rfl | go_num, HW.out _, HK2.out⟩
    · have HR2 := Lib.hid (HR.out fun i x y h1 h2 => HK.out i x y (by have := (List.getElem?_eq_some_iff.1 h2).1; rw [HN.out] at this; omega) h1 h2)
      have hk : k = n := by omega
      subst hk
      go_wp2
      go_ret
      exact ⟨by rw [HR2.out]; rfl, HBQ.out _⟩
end Go.Proofs.YtgjmlnpfkmpfgaaGreat
end

section
/-! Contracts of package plan: tripCosts, Rest. -/
namespace Go.Proofs.YtgjmlnpfkmpfgaaGreat
open Go.RowKit
set_option linter.unusedVariables false
set_option maxRecDepth 100000

/-- the boxes of a world and of a plan -/
structure WPB (V : World) (b1 b2 : Nat) (x : Wd) (p : Pd) : Prop where
  w : WX V b1 x
  p : PX V b2 p
theorem WPB.below {V V' : World} {b1 b2 : Nat} {x : Wd} {p : Pd} (h : WPB V b1 b2 x p) (hb : Below V.heap.size V V') : WPB V' b1 b2 x p := ⟨h.w.below hb, h.p.below hb⟩
theorem WPB.new {w : World} {x : Wd} {p : Pd} (hx : WAt w x) (hp : PAt w p) :
    WPB ((w.alloc (.cells #[.int .i64 x.N, .slice x.dA x.dm x.dc, .slice x.tA x.tm x.tc, .slice x.A x.m x.c, .slice x.B x.k x.d] 28)).alloc (.cells #[.slice p.rA p.rm p.rc, .slice p.uA p.um p.uc] 32)) w.heap.size (w.heap.size + 1) x p := by
  refine ⟨(WX.new hx).below (below_alloc _ _), ?_⟩
  rw [size_one w (.cells #[.int .i64 x.N, .slice x.dA x.dm x.dc, .slice x.tA x.tm x.tc, .slice x.A x.m x.c, .slice x.B x.k x.d] 28)]
  exact PX.new (hp.below (below_alloc _ _))

/-- what a call that tells the costs of trips leaves -/
def CostsPost (w : World) (f : Pl.Ro → Rt.R) (rs : List Pl.Ro) (e : Ending) (w' : World) : Prop :=
  ∃ A m c, e = .returned (.tuple #[.slice A m c, .int .i64 (Pl.tripE f rs)]) ∧ Hid (Below w.heap.size w w' ∧ (Pl.tripE f rs = 0 → IntsAt w' A (Pl.costs f rs) ∧ m = rs.length))

set_option maxHeartbeats 4000000 in
theorem tripCosts_b (x : Wd) (p : Pd) (w : World) (hx : WAt w x) (hp : PAt w p) :
    Calls Tryz.prog 31 #[.agg #[.int .i64 x.N, .slice x.dA x.dm x.dc, .slice x.tA x.tm x.tc, .slice x.A x.m x.c, .slice x.B x.k x.d], .agg #[.slice p.rA p.rm p.rc, .slice p.uA p.um p.uc]] w (CostsPost w (Pl.run x.N x.D x.T x.os x.ts) (ros p.rs)) := by
  have HX := Lib.hid (WPB.new hx hp)
  have HB0 : Hid (Below w.heap.size w ((w.alloc (.cells #[.int .i64 x.N, .slice x.dA x.dm x.dc, .slice x.tA x.tm x.tc, .slice x.A x.m x.c, .slice x.B x.k x.d] 28)).alloc (.cells #[.slice p.rA p.rm p.rc, .slice p.uA p.um p.uc] 32))) := below_more (below_alloc _ _) _
  have hrm := hp.r2
  obtain ⟨f, hf⟩ : ∃ f, Pl.run x.N x.D x.T x.os x.ts = f := ⟨_, rfl⟩
  have HF := Lib.hid hf
  rw [hf]
  clear hf
  have hmk : ∀ W : World, (Instr.makeSlice 22 (.int .i64 (p.rm : Int)) (.int .i64 (p.rm : Int))).run Tryz.prog W = .ok (.slice (some ⟨W.heap.size, 0, none⟩) p.rm p.rm) (W.alloc (.cells (Array.replicate p.rm (Value.int .i64 0)) 2)) := make_nums2 p.rm (by omega)
  have HLT : Hid ((Pl.costs f (ros p.rs)).length = p.rm) := by show (List.map _ (List.map _ _)).length = _; rw [List.length_map, List.length_map]; exact hp.rl
  clear hp hx
  go_enter Tryz.func31, Tryz.ntmps31
  have x0 := HX.out.p.c0
  have HSZ : Hid (w.heap.size + 1 + 1 = ((w.alloc (.cells #[.int .i64 x.N, .slice x.dA x.dm x.dc, .slice x.tA x.tm x.tc, .slice x.A x.m x.c, .slice x.B x.k x.d] 28)).alloc (.cells #[.slice p.rA p.rm p.rc, .slice p.uA p.um p.uc] 32)).heap.size) := by unfold Hid; simp
  have x0' : (((w.alloc (.cells #[.int .i64 x.N, .slice x.dA x.dm x.dc, .slice x.tA x.tm x.tc, .slice x.A x.m x.c, .slice x.B x.k x.d] 28)).alloc (.cells #[.slice p.rA p.rm p.rc, .slice p.uA p.um p.uc] 32)).alloc (.cells (Array.replicate p.rm (Value.int .i64 0)) 2)).cell? ⟨w.heap.size + 1, 0, none⟩ = some (.slice p.rA p.rm p.rc) := (HX.out.below (below_alloc _ _)).p.c0
  go_wp2_with fail
  generalize (w.alloc (.cells #[.int .i64 x.N, .slice x.dA x.dm x.dc, .slice x.tA x.tm x.tc, .slice x.A x.m x.c, .slice x.B x.k x.d] 28)).alloc (.cells #[.slice p.rA p.rm p.rc, .slice p.uA p.um p.uc] 32) = V at *
  generalize w.heap.size + 1 + 1 = g at *
  generalize w.heap.size + 1 = b2 at *
  generalize hb1 : w.heap.size = b1 at HX ⊢
  clear hb1
  have HS0 : Hid (Below g V (V.alloc (.cells (Array.replicate p.rm (Value.int .i64 0)) 2)) ∧ Nums (V.alloc (.cells (Array.replicate p.rm (Value.int .i64 0)) 2)) g (filled (Pl.costs f (ros p.rs)) p.rm 0)) := by
    rw [HSZ.out]
    refine ⟨below_alloc _ _, ?_⟩
    rw [filled_none]; unfold Nums; rw [arr_zeros]
    exact Box.new _ _ _
  generalize V.alloc (.cells (Array.replicate p.rm (Value.int .i64 0)) 2) = V1 at *
  clear x0 x0' hmk
  go_loopg [18] p.rm (fun gk s18 W => ∃ (k : Nat) (W0 : World), W0 = W ∧ k + gk = p.rm ∧ s18 = .int .i64 k ∧ Hid (Below g V W0) ∧ Hid (Nums W0 g (filled (Pl.costs f (ros p.rs)) p.rm k)) ∧ Hid (∀ (j : Nat) (s : Pl.Ro), j < k → (ros p.rs)[j]? = some s → (f s).e = 0))
  case atStart => exact ⟨0, _, rfl, by omega, rfl, HS0.out.1, HS0.out.2, fun j s hj => by omega⟩
  case round =>
    obtain ⟨k, W0, rfl, hkg, rfl, HK, HO, HE⟩ := hrel
    have HK' : Hid (Below V.heap.size V W0) := by rw [← HSZ.out]; exact HK.out
    by_cases hlt : k < p.rm
    · obtain ⟨gk, rfl⟩ : ∃ j, gk = j + 1 := ⟨gk - 1, by omega⟩
      obtain ⟨r, hr⟩ := mlist_at p.rs k (by rw [HX.out.p.at_.rl]; exact hlt)
      have HX0 := Lib.hid (HX.out.below HK'.out)
      obtain ⟨ad, hrA, hc, hra⟩ := HX0.out.p.at_.at_ hr
      obtain ⟨c0, c1⟩ := hc
      have i2 : (k : Int) < (p.rm : Int) := by omega
      have HR := Lib.hid (ros_at hr)
      have HX1 := Lib.hid (HX0.out.below (below_alloc W0 (.cells #[.int .i64 r.tr, .slice r.sA r.sm r.sc] 49)))
      have x0 := HX1.out.w.c0
      have x1 := HX1.out.w.c1
      have x2 := HX1.out.w.c2
      have x3 := HX1.out.w.c3
      have x4 := HX1.out.w.c4
      obtain ⟨res, hres⟩ : ∃ z, f r.ro = z := ⟨_, rfl⟩
      have HRES := Lib.hid hres
      have HC := Lib.hid (run_b x r (W0.alloc (.cells #[.int .i64 r.tr, .slice r.sA r.sm r.sc] 49)) res (by rw [← HF.out] at hres; exact hres) HX1.out.w.at_ (hra.below (below_alloc _ _)))
      have HBW := Lib.hid (Below.alloc HK.out (by rw [HSZ.out]; exact HK'.out.size) (.cells #[.int .i64 r.tr, .slice r.sA r.sm r.sc] 49))
      have HN2 := Lib.hid (Box.below HO.out (below_alloc W0 (.cells #[.int .i64 r.tr, .slice r.sA r.sm r.sc] 49)))
      have HRA := Lib.hid hrA
      clear hr hra hrA hres
      generalize p.rA = rA at *
      obtain rfl := HRA.out
      go_wp2_with fail
      with_reducible refine HC.out.mono ?_
      rintro e w2 ⟨A2, c2, rfl, h2⟩
      clear x0 x1 x2 x3 x4 c0 c1 HC
      have HGS : Hid (g ≤ (W0.alloc (.cells #[.int .i64 r.tr, .slice r.sA r.sm r.sc] 49)).heap.size) := by unfold Hid; rw [HSZ.out]; exact Nat.le_trans HK'.out.size (below_alloc _ _).size
      have HB2 : Hid (Below g V w2) := HBW.out.trans (h2.out.1.mono HGS.out)
      have HN3 := Lib.hid (Box.below HN2.out h2.out.1)
      have HG2 : Hid (g ≤ w2.heap.size) := Nat.le_trans HGS.out h2.out.1.size
      by_cases he : res.e = 0
      · have e1 : (res.e != (0 : Int)) = false := by rw [he]; decide
        have HE2 : Hid (∀ (j : Nat) (s : Pl.Ro), j < k + 1 → (ros p.rs)[j]? = some s → (f s).e = 0) := fun j s hj hs => by
          by_cases h : j < k
          · exact HE.out j s h hs
          · obtain rfl : j = k := by omega
            rw [HR.out] at hs
            obtain rfl := Option.some.inj hs
            rw [HRES.out]
            exact he
        have HSET : Hid ((filled (Pl.costs f (ros p.rs)) p.rm k).set k res.cost = filled (Pl.costs f (ros p.rs)) p.rm (k + 1)) := filled_set _ _ _ _ HLT.out (by show (List.map _ _)[k]? = _; rw [List.getElem?_map, HR.out]; show some (f r.ro).cost = _; rw [HRES.out])
        clear he
        generalize res.vs.length = vn at *
        have HN4 := Lib.hid (Box.below HN3.out (below_alloc w2 (.cells #[.slice A2 vn c2, .int .i64 res.back, .int .i64 res.dist, .int .i64 res.cost] 96)))
        obtain ⟨z, z0⟩ := Nums.cellAt HN4.out (k := k) (by rw [filled_len _ _ _ HLT.out (by omega)]; exact hlt)
        have z1 := Nums.fz HN4.out k
        have HB4 := Lib.hid (Below.alloc HB2.out HG2.out (.cells #[.slice A2 vn c2, .int .i64 res.back, .int .i64 res.dist, .int .i64 res.cost] 96))
        go_wp2_with fail
        go_roundg gk
        case measure => omega
        case rel => exact ⟨k + 1, _, rfl, by omega, by first | rfl | go_num, HB4.out.setCell (p := ⟨g, k, none⟩) (Nat.le_refl _) _, by rw [← HSET.out]; exact Nums.set HN4.out k _, HE2.out⟩
      · have e1 : (res.e != (0 : Int)) = true := bne_iff_ne.2 he
        have HT : Hid (Pl.tripE f (ros p.rs) = res.e) := by
          have := Pl.trip_first HR.out HE.out (by rw [HRES.out]; exact he)
          rw [HRES.out] at this
          exact this
        have HT0 := Lib.hid he
        clear he
        generalize res.vs.length = vn at *
        have HB4 := Lib.hid (Below.alloc HB2.out HG2.out (.cells #[.slice A2 vn c2, .int .i64 res.back, .int .i64 res.dist, .int .i64 res.cost] 96))
        go_wp2_with fail
        go_ret2
        refine ⟨none, 0, 0, by rw [HT.out]; rfl, below_next HB0.out (by rw [← HSZ.out]; exact HB4.out), fun h => absurd ?_ HT0.out⟩
        rw [← HT.out]; exact h
    · have hk : k = p.rm := by omega
      subst hk
      have HT : Hid (Pl.tripE f (ros p.rs) = 0) := Pl.trip_all fun j s hs => HE.out j s (by have := (List.getElem?_eq_some_iff.1 hs).1; rw [ros_len, HX.out.p.at_.rl] at this; exact this) hs
      have HO2 := HO.out
      rw [filled_all _ _ HLT.out] at HO2
      have HO3 := Lib.hid HO2
      clear HO2
      go_wp2_with fail
      go_ret2
      exact ⟨some ⟨g, 0, none⟩, p.rm, p.rm, by rw [HT.out]; rfl, below_next HB0.out HK'.out, fun _ => ⟨HO3.out.ints, by rw [ros_len]; exact HX.out.p.at_.rl.symm⟩⟩

theorem one_int (W : World) (z : Int) : IntsAt (W.alloc (.cells #[.int .i64 z] 3)) (some ⟨W.heap.size, 0, none⟩) [z] := box_ints (Box.new _ _ _) rfl

set_option maxHeartbeats 4000000 in
theorem rest_b (x : Wd) (p : Pd) (w : World) (hx : WAt w x) (hp : PAt w p) :
    Calls Tryz.prog 35 #[.agg #[.int .i64 x.N, .slice x.dA x.dm x.dc, .slice x.tA x.tm x.tc, .slice x.A x.m x.c, .slice x.B x.k x.d], .agg #[.slice p.rA p.rm p.rc, .slice p.uA p.um p.uc]] w (NewI w (Pl.restS x.os (ros p.rs))) := by
  have HX := Lib.hid (WPB.new hx hp)
  have HB0 : Hid (Below w.heap.size w ((w.alloc (.cells #[.int .i64 x.N, .slice x.dA x.dm x.dc, .slice x.tA x.tm x.tc, .slice x.A x.m x.c, .slice x.B x.k x.d] 28)).alloc (.cells #[.slice p.rA p.rm p.rc, .slice p.uA p.um p.uc] 32))) := below_more (below_alloc _ _) _
  have hxm := hx.m2
  have HXM := Lib.hid hx.ml
  have HTOT : Hid ((Pl.servedS (ros p.rs)).length ≤ 10000) := by unfold Hid Pl.servedS; rw [Pl.srt_len]; exact hp.tot
  clear hp hx
  go_enter Tryz.func35, Tryz.ntmps35
  have x0 := HX.out.p.c0
  have x1 := HX.out.p.c1
  go_wp2_with fail
  generalize (w.alloc (.cells #[.int .i64 x.N, .slice x.dA x.dm x.dc, .slice x.tA x.tm x.tc, .slice x.A x.m x.c, .slice x.B x.k x.d] 28)).alloc (.cells #[.slice p.rA p.rm p.rc, .slice p.uA p.um p.uc] 32) = V at *
  generalize w.heap.size + 1 = b2 at *
  generalize hb1 : w.heap.size = b1 at HX ⊢
  clear hb1
  have HC := Lib.hid (served_b p V HX.out.p.at_)
  with_reducible refine HC.out.mono ?_
  rintro e V2 ⟨As, cs, rfl, hcs, hs⟩
  clear x0 x1 HC hcs
  have HB2 := Lib.hid (below_next HB0.out hs.out.1)
  have HX2 := Lib.hid (HX.out.below hs.out.1)
  have HS := Lib.hid hs.out.2.1
  have HSP : Hid (∀ ad, As = some ad → ad.spot = none) := fun ad e => (hs.out.2.2 ad e).2
  clear hs HX HB0
  obtain ⟨sv, hsv⟩ : ∃ s, Pl.servedS (ros p.rs) = s := ⟨_, rfl⟩
  have HSV := Lib.hid hsv
  have HSO : Hid (sv.Pairwise (· ≤ ·)) := by rw [← HSV.out]; exact Pl.srt_sorted _
  rw [hsv] at HS HTOT ⊢
  clear hsv
  obtain ⟨ns, hns⟩ : ∃ n, sv.length = n := ⟨_, rfl⟩
  have HNS := Lib.hid hns
  rw [hns] at HTOT ⊢
  clear hns
  have x3 := HX2.out.w.c3
  have HGL : Hid (V2.heap.size ≤ V2.heap.size) := Nat.le_refl _
  go_wp2_with fail
  obtain ⟨g, hg⟩ : ∃ g, g = V2.heap.size := ⟨_, rfl⟩
  have HGE := Lib.hid hg
  clear hg x3
  go_loopg [6, 16] x.m (fun gk s6 s16 W => ∃ (k m c : Nat) (A : Option Addr) (W0 : World), W0 = W ∧ k + gk = x.m ∧ s6 = .slice A m c ∧ s16 = .int .i64 k ∧ Hid (Below V2.heap.size V2 W0 ∧ g ≤ W0.heap.size) ∧ Hid (OwnI W0 g (.slice A m c) (Pl.restL (x.os.take k) (ros p.rs))))
  case atStart => exact ⟨0, 0, 0, none, _, rfl, by omega, rfl, rfl, ⟨Below.refl _ _, by rw [HGE.out]; exact Nat.le_refl _⟩, ownI_nil _ _⟩
  case round =>
    obtain ⟨k, m, c, A, W0, rfl, hkg, rfl, rfl, HK, HO⟩ := hrel
    by_cases hlt : k < x.m
    · obtain ⟨gk, rfl⟩ : ∃ j, gk = j + 1 := ⟨gk - 1, by omega⟩
      obtain ⟨o, ho⟩ := mlist_at x.os k (by rw [HXM.out]; exact hlt)
      have HX0 := Lib.hid (HX2.out.below HK.out.1)
      obtain ⟨ad, hA, hc⟩ := HX0.out.w.at_.os.at_ ho
      obtain ⟨c0, c1, c2, c3, c4, c5, c6, c7⟩ := hc
      obtain ⟨a0, a1, a2, a3, a4, a5, a6, a7⟩ := o
      simp only at c0 c1 c2 c3 c4 c5 c6 c7
      have i2 : (k : Int) < (x.m : Int) := by omega
      have HOK := Lib.hid ho
      obtain ⟨r, hr⟩ : ∃ r, Pl.outB sv a0 = r := ⟨_, rfl⟩
      have HR := Lib.hid hr
      have HBX := Lib.hid (Box.new W0 #[.int .i64 a0, .int .i64 a1, .int .i64 a2, .int .i64 a3, .int .i64 a4, .int .i64 a5, .int .i64 a6, .int .i64 a7] 52)
      have HB3 := Lib.hid (Below.alloc HK.out.1 HK.out.1.size (.cells #[.int .i64 a0, .int .i64 a1, .int .i64 a2, .int .i64 a3, .int .i64 a4, .int .i64 a5, .int .i64 a6, .int .i64 a7] 52))
      have HC := Lib.hid (search_b As ns cs sv a0 (W0.alloc (.cells #[.int .i64 a0, .int .i64 a1, .int .i64 a2, .int .i64 a3, .int .i64 a4, .int .i64 a5, .int .i64 a6, .int .i64 a7] 52)) r hr HNS.out (HS.out.below HB3.out) HSP.out HSO.out (by have := HTOT.out; omega))
      have HO3 := Lib.hid (HO.out.below (below_alloc W0 (.cells #[.int .i64 a0, .int .i64 a1, .int .i64 a2, .int .i64 a3, .int .i64 a4, .int .i64 a5, .int .i64 a6, .int .i64 a7] 52)))
      have HG3 : Hid (g ≤ (W0.alloc (.cells #[.int .i64 a0, .int .i64 a1, .int .i64 a2, .int .i64 a3, .int .i64 a4, .int .i64 a5, .int .i64 a6, .int .i64 a7] 52)).heap.size) := Nat.le_trans HK.out.2 (below_alloc W0 _).size
      have HRA := Lib.hid hA
      clear ho hA hr
      generalize x.A = oA at *
      obtain rfl := HRA.out
      cases r with
      | false =>
        have HNX : Hid (Pl.restL (x.os.take (k + 1)) (ros p.rs) = Pl.restL (x.os.take k) (ros p.rs)) := Pl.restL_take_out HOK.out (by rw [HSV.out]; exact HR.out)
        go_wp2_with fail
        with_reducible refine HC.out.mono ?_
        rintro e w2 ⟨q, rfl, h2⟩
        go_wp2
        go_roundg gk
        case measure => omega
        case rel => exact ⟨k + 1, m, c, A, _, rfl, by omega, rfl, by first | rfl | go_num, ⟨below_next HB3.out h2.out, Nat.le_trans HG3.out h2.out.size⟩, by rw [HNX.out]; exact HO3.out.below h2.out⟩
      | true =>
        have HNX : Hid (Pl.restL (x.os.take (k + 1)) (ros p.rs) = Pl.restL (x.os.take k) (ros p.rs) ++ [a0]) := Pl.restL_take_in HOK.out (by rw [HSV.out]; exact HR.out)
        go_wp2_with fail
        with_reducible refine HC.out.mono ?_
        rintro e w2 ⟨q, rfl, h2⟩
        have HB4 := Lib.hid (below_more (below_next HB3.out h2.out) (.cells #[.int .i64 a0] 3))
        have HO4 := Lib.hid ((HO3.out.below h2.out).below (below_alloc w2 (.cells #[.int .i64 a0] 3)))
        have HG4 : Hid (g ≤ (w2.alloc (.cells #[.int .i64 a0] 3)).heap.size) := Nat.le_trans HG3.out (Nat.le_trans h2.out.size (below_alloc w2 _).size)
        have y0 : w2.cell? ⟨W0.heap.size, 0, none⟩ = some (.int .i64 a0) := (HBX.out.below h2.out).cell 0 _ rfl
        obtain ⟨M, hM⟩ : ∃ M, (Pl.restL (x.os.take k) (ros p.rs) ++ [a0]).length = M := ⟨_, rfl⟩
        have HA := Lib.hid (owni_next (w := V2) HB4.out (by rw [HGE.out]; exact Nat.le_refl _) HG4.out HO4.out (some ⟨w2.heap.size, 0, none⟩) 1 1 [a0] rfl (one_int w2 a0) (by have := Pl.restL_len (x.os.take k) (ros p.rs); have h3 : (x.os.take k).length ≤ x.os.length := List.length_take_le' _ _; rw [HXM.out] at h3; omega) M hM)
        clear hM
        go_wp2_with (at_builtin; refine wpList_append_any rfl (.tmp 29) (.tmp 32) 30 30 rfl _ _ rfl rfl _ HA.out ?_; intro v5 w5 hap; obtain ⟨A5, c5, rfl, HAP⟩ := hap)
        go_roundg gk
        case measure => omega
        case rel => exact ⟨k + 1, M, c5, A5, _, rfl, by omega, rfl, by first | rfl | go_num, ⟨HAP.out.2.1, HAP.out.2.2.1⟩, by rw [HNX.out]; exact HAP.out.1⟩
    · have HALL : Hid (x.os.take k = x.os) := List.take_of_length_le (by rw [HXM.out]; omega)
      have hm : m ≤ 100000 := by
        obtain ⟨A', c', e, _⟩ := HO.out.ints
        injection e with _ e2 _
        have := Pl.restL_len (x.os.take k) (ros p.rs)
        have h3 : (x.os.take k).length ≤ x.os.length := List.length_take_le' _ _
        rw [HXM.out] at h3
        omega
      have HC := Lib.hid (sort_own A m c _ W0 g HO.out HK.out.2 hm)
      go_wp2_with fail
      with_reducible refine HC.out.mono ?_
      rintro e w2 ⟨rfl, h2⟩
      go_wp2
      go_ret
      exact newi_sorted (by rw [HGE.out]; exact HB2.out.size) (below_next HB2.out HK.out.1) (by rw [HALL.out]; rfl) h2.out
end Go.Proofs.YtgjmlnpfkmpfgaaGreat
end
