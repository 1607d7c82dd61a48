/- The document's answer for better: whether two plans, or two lists of them, are the same. -/
import Derived.Test.YtgjmlnpfkmpfgaaGreatBetDdi
import Derived.Test.YtgjmlnpfkmpfgaaGreatBetEL
import Derived.StillTailTactics
namespace Go.Proofs.YtgjmlnpfkmpfgaaGreat
open Go.RowKit
set_option linter.unusedVariables false
set_option maxRecDepth 100000

set_option maxHeartbeats 4000000 in
theorem dplans_b (A B : Option Addr) (n c m d : Nat) (la lb : List Pd) (w : World) (hn : la.length = n) (hm : lb.length = m) (hn2 : n ≤ 100000) (ha : RowsP w A la) (hb : RowsP w B lb) (pa : ∀ q ∈ la, PAt w q) (pb : ∀ q ∈ lb, PAt w q) (hro : (la.map fun q => ros q.rs) = lb.map fun q => ros q.rs) (hus : (la.map fun q => q.us) = lb.map fun q => q.us) :
    Calls Tryz.prog 9 #[.slice A n c, .slice B m d] w fun e w' => e = .returned (.bool true) ∧ Hid (Below w.heap.size w w') := by
  have hnm : n = m := by
    have h := congrArg List.length hro
    rw [List.length_map, List.length_map, hn, hm] at h
    exact h
  subst hnm
  have HN := Lib.hid hn
  have HM := Lib.hid hm
  have HA := Lib.hid ha
  have HB := Lib.hid hb
  have HPA := Lib.hid pa
  have HPB := Lib.hid pb
  have HRO := Lib.hid hro
  have HUS := Lib.hid hus
  have d1 : ((n : Int) != (n : Int)) = false := by simp
  clear hn hm ha hb pa pb hro hus
  go_enter Tryz.func9, Tryz.ntmps9
  go_wp2_with fail
  go_loopg [5] n (fun gk s5 Wx => ∃ (i : Nat) (W : World), W = Wx ∧ i + gk = n ∧ s5 = .int .i64 i ∧ Hid (Below w.heap.size w W))
  case atStart => exact ⟨0, _, rfl, by omega, rfl, Below.refl _ _⟩
  case round =>
    obtain ⟨i, W, rfl, hig, rfl, HK⟩ := hrel
    by_cases hlt : i < n
    · obtain ⟨gk, rfl⟩ : ∃ j, gk = j + 1 := ⟨gk - 1, by omega⟩
      obtain ⟨p, hp⟩ := mlist_at la i (by rw [HN.out]; exact hlt)
      obtain ⟨q, hq⟩ := mlist_at lb i (by rw [HM.out]; exact hlt)
      obtain ⟨ad, hA, a0, a1⟩ := (HA.out.below HK.out) i p hp
      obtain ⟨bd, hB, b0, b1⟩ := (HB.out.below HK.out) i q hq
      have i2 : (i : Int) < (n : Int) := by omega
      have hr : ros p.rs = ros q.rs := by
        have h := congrArg (fun l => l[i]?) HRO.out
        simp only [List.getElem?_map, hp, hq, Option.map_some] at h
        exact Option.some.inj h
      have hu : p.us = q.us := by
        have h := congrArg (fun l => l[i]?) HUS.out
        simp only [List.getElem?_map, hp, hq, Option.map_some] at h
        exact Option.some.inj h
      have HC : Hid (∀ U, Below w.heap.size w U → Calls Tryz.prog 14 #[.agg #[.slice p.rA p.rm p.rc, .slice p.uA p.um p.uc], .agg #[.slice q.rA q.rm q.rc, .slice q.uA q.um q.uc]] U fun e w' => e = .returned (.bool true) ∧ Hid (Below U.heap.size U w')) := fun U hU => pequal_b p q U ((HPA.out p (List.mem_of_getElem? hp)).below hU) ((HPB.out q (List.mem_of_getElem? hq)).below hU) hr hu
      obtain rfl := hA
      obtain rfl := hB
      clear hp hq hr hu
      go_wp2
      go_still_tail 8, (by kernel_rfl)
      rename World => W1
      change wpList _ _ _ _ _ W1.drew
      have HK1 : Hid (Below w.heap.size w W1.drew) := HK.out.drew
      clear a0 a1 b0 b1
      generalize W1.drew = W2 at *
      go_wp2_with fail
      with_reducible refine (HC.out W2 HK1.out).mono ?_
      rintro e W3 ⟨rfl, h3⟩
      have HK3 := Lib.hid (below_next HK1.out h3.out)
      go_wp2
      go_roundg gk
      case measure => omega
      case rel => exact ⟨i + 1, _, rfl, by omega, by first | rfl | go_num, HK3.out⟩
    · obtain rfl : i = n := by omega
      go_wp2
      go_ret
      exact ⟨rfl, HK.out⟩
end Go.Proofs.YtgjmlnpfkmpfgaaGreat
