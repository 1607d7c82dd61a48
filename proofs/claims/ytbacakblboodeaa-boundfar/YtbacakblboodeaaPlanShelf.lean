/- What the library's sort, search, comparison and copy of lists of numbers leave, at this program. -/
import Derived.Shelf.Sort.Plain
import Derived.Shelf.Slices.SearchI
import Derived.Shelf.Slices.Empties
import Derived.Shelf.Slices.In.SortNone
import Derived.Test.YtbacakblboodeaaAreaApp
import Derived.Test.YtbacakblboodeaaLoadMoney
import Derived.Test.YtbacakblboodeaaMaths
namespace Go.Proofs.Ytbacakblboodeaa
open Go.RowKit Go.Shelf Go.Sort
set_option linter.unusedVariables false

def Try.laysSort_ren : Go.Shelf.Ren := ⟨fun | 189 => 42 | 125 => 61 | 257 => 60 | 128 => 94 | 129 => 95 | 294 => 86 | 295 => 87 | 296 => 88 | 297 => 89 | 298 => 90 | 299 => 91 | 216 => 84 | 300 => 92 | 301 => 93 | 328 => 107 | 329 => 108 | 330 => 109 | 331 => 110 | 332 => 111 | 215 => 106 | 343 => 118 | n => n, fun | 28 => 29 | 3 => 3 | 46 => 102 | 0 => 0 | 51 => 134 | 53 => 136 | 4 => 4 | 183 => 128 | 182 => 127 | 131 => 97 | 5 => 5 | 9 => 9 | 218 => 152 | 222 => 156 | 228 => 166 | 229 => 167 | n => n, fun n => n⟩
theorem Try.laysSort : Lays.n189 Try.prog Try.laysSort_ren :=
  { mixed := by kernel_rfl,
    f125 := Try.func61.trans (congrArg some (by kernel_rfl)),
    f128 := Try.func94.trans (congrArg some (by kernel_rfl)),
    f129 := Try.func95.trans (congrArg some (by kernel_rfl)),
    f189 := Try.func42.trans (congrArg some (by kernel_rfl)),
    f215 := Try.func106.trans (congrArg some (by kernel_rfl)),
    f216 := Try.func84.trans (congrArg some (by kernel_rfl)),
    f257 := Try.func60.trans (congrArg some (by kernel_rfl)),
    f294 := Try.func86.trans (congrArg some (by kernel_rfl)),
    f295 := Try.func87.trans (congrArg some (by kernel_rfl)),
    f296 := Try.func88.trans (congrArg some (by kernel_rfl)),
    f297 := Try.func89.trans (congrArg some (by kernel_rfl)),
    f298 := Try.func90.trans (congrArg some (by kernel_rfl)),
    f299 := Try.func91.trans (congrArg some (by kernel_rfl)),
    f300 := Try.func92.trans (congrArg some (by kernel_rfl)),
    f301 := Try.func93.trans (congrArg some (by kernel_rfl)),
    f328 := Try.func107.trans (congrArg some (by kernel_rfl)),
    f329 := Try.func108.trans (congrArg some (by kernel_rfl)),
    f330 := Try.func109.trans (congrArg some (by kernel_rfl)),
    f331 := Try.func110.trans (congrArg some (by kernel_rfl)),
    f332 := Try.func111.trans (congrArg some (by kernel_rfl)),
    f343 := Try.func118.trans (congrArg some (by kernel_rfl)),
    t0 := Try.underlying0,
    a0 := Try.isAgg0,
    z0 := Try.sizeOf0,
    v0 := Try.zeroValue0,
    t3 := Try.underlying3,
    a3 := Try.isAgg3,
    z3 := Try.sizeOf3,
    v3 := Try.zeroValue3,
    t4 := Try.underlying4,
    a4 := Try.isAgg4,
    z4 := Try.sizeOf4,
    v4 := Try.zeroValue4,
    t5 := Try.underlying5,
    a5 := Try.isAgg5,
    z5 := Try.sizeOf5,
    v5 := Try.zeroValue5,
    t9 := Try.underlying9,
    a9 := Try.isAgg9,
    z9 := Try.sizeOf9,
    v9 := Try.zeroValue9,
    t28 := Try.underlying29,
    a28 := Try.isAgg29,
    z28 := Try.sizeOf29,
    v28 := Try.zeroValue29,
    t46 := Try.underlying102,
    a46 := Try.isAgg102,
    z46 := Try.sizeOf102,
    v46 := Try.zeroValue102,
    t51 := Try.underlying134,
    a51 := Try.isAgg134,
    z51 := Try.sizeOf134,
    v51 := Try.zeroValue134,
    t53 := Try.underlying136,
    a53 := Try.isAgg136,
    z53 := Try.sizeOf136,
    v53 := Try.zeroValue136,
    t131 := Try.underlying97,
    a131 := Try.isAgg97,
    z131 := Try.sizeOf97,
    v131 := Try.zeroValue97,
    t182 := Try.underlying127,
    a182 := Try.isAgg127,
    z182 := Try.sizeOf127,
    v182 := Try.zeroValue127,
    t183 := Try.underlying128,
    a183 := Try.isAgg128,
    z183 := Try.sizeOf128,
    v183 := Try.zeroValue128,
    t218 := Try.underlying152,
    a218 := Try.isAgg152,
    z218 := Try.sizeOf152,
    v218 := Try.zeroValue152,
    t222 := Try.underlying156,
    a222 := Try.isAgg156,
    z222 := Try.sizeOf156,
    v222 := Try.zeroValue156,
    t228 := Try.underlying166,
    a228 := Try.isAgg166,
    z228 := Try.sizeOf166,
    v228 := Try.zeroValue166,
    t229 := Try.underlying167,
    a229 := Try.isAgg167,
    z229 := Try.sizeOf167,
    v229 := Try.zeroValue167 }
def Try.laysSearch_ren : Go.Shelf.Ren := ⟨fun | 25 => 58 | 31 => 84 | 32 => 85 | 37 => 106 | n => n, fun | 22 => 29 | 3 => 3 | 4 => 4 | 40 => 102 | 0 => 0 | n => n, fun n => n⟩
theorem Try.laysSearch : Lays2.n25 Try.prog Try.laysSearch_ren :=
  { mixed := by kernel_rfl,
    f25 := Try.func58.trans (congrArg some (by kernel_rfl)),
    f31 := Try.func84.trans (congrArg some (by kernel_rfl)),
    f32 := Try.func85.trans (congrArg some (by kernel_rfl)),
    f37 := Try.func106.trans (congrArg some (by kernel_rfl)),
    t0 := Try.underlying0,
    a0 := Try.isAgg0,
    z0 := Try.sizeOf0,
    v0 := Try.zeroValue0,
    t3 := Try.underlying3,
    a3 := Try.isAgg3,
    z3 := Try.sizeOf3,
    v3 := Try.zeroValue3,
    t4 := Try.underlying4,
    a4 := Try.isAgg4,
    z4 := Try.sizeOf4,
    v4 := Try.zeroValue4,
    t22 := Try.underlying29,
    a22 := Try.isAgg29,
    z22 := Try.sizeOf29,
    v22 := Try.zeroValue29,
    t40 := Try.underlying102,
    a40 := Try.isAgg102,
    z40 := Try.sizeOf102,
    v40 := Try.zeroValue102 }

set_option maxRecDepth 100000

theorem add_flat (b o k : Nat) : (⟨b, o, none⟩ : Addr).add k = ⟨b, o + k, none⟩ := by unfold Addr.add; split <;> simp_all
/-- a sorted row -/
theorem below_sorted {base : Nat} (W : World) (n b o : Nat) (d : Array Int) (os : Array Obj) (hb : base ≤ b) (hs : base ≤ W.heap.size) : Below base W (grow (putRow (Value.int .i64) (Sort.ahead W n) b o d) os) := by
  refine ⟨rfl, rfl, rfl, ?_, fun k hk => ?_⟩
  · rw [size_grow, size_putRow]
    exact Nat.le_add_right _ _
  · rw [heap_grow_old _ _ (by rw [size_putRow]; exact Nat.lt_of_lt_of_le hk hs)]
    show (W.heap.modify b _)[k]? = _
    rw [Array.getElem?_modify, if_neg (by omega)]
theorem holds_ints {W : World} {b o : Nat} {l : List Int} (h : IntsAt W (some ⟨b, o, none⟩) l) (hf : ∀ k, k < l.length → W.frozen? ⟨b, o + k, none⟩ = false) : Holds (Value.int .i64) W b o l.toArray := by
  intro j hj
  have hj' : j < l.length := by simpa using hj
  obtain ⟨ad, e, hc⟩ := h j l[j] (List.getElem?_eq_getElem hj')
  obtain rfl := Option.some.inj e
  rw [add_flat] at hc
  refine ⟨?_, hf j hj'⟩
  rw [hc]
  simp [hj']
theorem ints_holds {W : World} {b o : Nat} {l : List Int} (h : Holds (Value.int .i64) W b o l.toArray) : IntsAt W (some ⟨b, o, none⟩) l := by
  intro k z hz
  obtain ⟨hk, e⟩ := List.getElem?_eq_some_iff.1 hz
  refine ⟨_, rfl, ?_⟩
  rw [add_flat, (h k (by simpa using hk)).1]
  simp [hk, e]
theorem sort_ints (b o n c : Nat) (l : List Int) (W : World) (base : Nat) (hn : l.length = n) (h : IntsAt W (some ⟨b, o, none⟩) l) (hf : ∀ k, k < l.length → W.frozen? ⟨b, o + k, none⟩ = false) (hb : base ≤ b) (hlt : b < W.heap.size) (hl : n ≤ 100000) :
    Calls Try.prog 42 #[.slice (some ⟨b, o, none⟩) n c] W fun e w' => e = .returned (.tuple #[]) ∧ Hid (Below base W w' ∧ IntsAt w' (some ⟨b, o, none⟩) (Pl.srt l)) := by
  subst hn
  have hH := holds_ints h hf
  have hc := Any.slices_Sort_int Try.laysSort b o c l W hH hlt (by omega)
  rw [Pl.merge_srt] at hc
  refine Calls.mono hc ?_
  rintro e w' ⟨rfl, q, os, rfl⟩
  refine ⟨rfl, below_sorted W q b o _ os hb (by omega), ints_holds ?_⟩
  have h2 : Holds (Value.int .i64) (putRow (Value.int .i64) (Sort.ahead W q) b o (Pl.srt l).toArray) b o (Pl.srt l).toArray := holds_putRow _ _ _ _ l.toArray _ hH (by simp [Pl.srt_len])
  exact holds_grow _ _ _ _ _ _ (by rw [size_putRow]; exact hlt) h2
/-- a row of one's own, sorted -/
theorem sort_own (A : Option Addr) (n c : Nat) (l : List Int) (W : World) (base : Nat) (h : OwnI W base (.slice A n c) l) (hb : base ≤ W.heap.size) (hl : n ≤ 100000) :
    Calls Try.prog 42 #[.slice A n c] W fun e w' => e = .returned (.tuple #[]) ∧ Hid (Below base W w' ∧ IntsAt w' A (Pl.srt l) ∧ l.length = n ∧ n ≤ c ∧ ∀ ad, A = some ad → base ≤ ad.block ∧ ad.spot = none) := by
  obtain ⟨A', c', e, h1, h2, hi⟩ := h.ints
  injection e with e1 e2 e3
  subst e1 e2 e3
  rcases h.2 with ⟨e, h0⟩ | ⟨g, cap, cur, e, hbg, hg, _⟩
  · injection e with e1 e2 e3
    subst e1 e3
    have : l = [] := List.eq_nil_of_length_eq_zero e2
    subst this
    refine Calls.mono (Any.slices_Sort_int_none Try.laysSort none 0 W) ?_
    rintro e w' ⟨rfl, rfl⟩
    exact ⟨rfl, Below.refl _ _, IntsAt.nil _ _, rfl, h1, fun ad e => by cases e⟩
  · injection e with e1 e2 e3
    subst e1 e3
    refine Calls.mono (sort_ints g 0 l.length c l W base rfl hi (fun k _ => ?_) hbg (Array.getElem?_eq_some_iff.1 hg).1 hl) ?_
    · unfold World.frozen?; rw [hg]; simp
    · rintro e w' ⟨rfl, h3⟩
      refine ⟨rfl, h3.out.1, h3.out.2, rfl, h1, fun ad e => ?_⟩
      obtain rfl := Option.some.inj e
      exact ⟨hbg, rfl⟩
/-- a block of numbers is such a row -/
theorem own_block {W : World} {g base : Nat} {l : List Int} (h : W.heap[g]? = some (.cells (l.map (Value.int .i64)).toArray 3 (0, 0))) (hb : base ≤ g) (hl : l.length ≤ 100000) : OwnI W base (.slice (some ⟨g, 0, none⟩) l.length l.length) l :=
  ⟨by simp, .inr ⟨g, l.length, (l.map (Value.int .i64)).toArray, rfl, hb, h, Nat.le_refl _, by unfold maxLen; omega, by simp, by simp [List.take_of_length_le]⟩⟩

/-- whether a number is in a rising row -/
theorem search_b (A : Option Addr) (n c : Nat) (l : List Int) (x : Int) (w : World) (r : Bool) (hr : Pl.outB l x = r) (hn : l.length = n) (h : IntsAt w A l) (hs : ∀ ad, A = some ad → ad.spot = none) (hp : l.Pairwise (· ≤ ·)) (hl : n ≤ 100000) :
    Calls Try.prog 58 #[.slice A n c, .int .i64 x] w fun e w' => ∃ p : Int, e = .returned (.tuple #[.int .i64 p, .bool (!r)]) ∧ Hid (Below w.heap.size w w') := by
  have hr' : (!r) = l.contains x := by rw [← hr]; unfold Pl.outB; simp
  rw [hr']
  cases l with
  | nil =>
    obtain rfl : n = 0 := hn.symm
    refine Calls.mono (Any.slices_BinarySearch_int_empty Try.laysSearch A c x w) ?_
    rintro e w' ⟨rfl, rfl⟩
    exact ⟨_, rfl, Below.refl _ _⟩
  | cons z l =>
    obtain ⟨⟨b, o, sp⟩, rfl, _⟩ := h 0 z rfl
    obtain rfl : sp = none := hs _ rfl
    have hc := Any.slices_BinarySearch_int Try.laysSearch b o n c (z :: l) x w (by rw [hn]; exact Nat.le_refl _) (by omega) (fun j hj => by
      obtain ⟨ad, e, h2⟩ := h j _ (List.getElem?_eq_getElem hj)
      obtain rfl := Option.some.inj e
      rw [add_flat] at h2
      rw [h2]
      rw [List.getD_eq_getElem?_getD, List.getElem?_eq_getElem hj]
      rfl) (by rw [← hn, List.take_length]; exact hp)
    rw [← hn, List.take_length] at hc
    rw [← hn]
    refine Calls.mono hc ?_
    rintro e w' ⟨rfl, q, rfl⟩
    exact ⟨_, rfl, ⟨rfl, rfl, rfl, Nat.le_refl _, fun _ _ => rfl⟩⟩

set_option maxHeartbeats 1000000 in
theorem equal_b (A B : Option Addr) (n c m d : Nat) (a b : List Int) (w : World) (r : Bool) (hr : decide (a = b) = r) (hn : a.length = n) (hm : b.length = m) (hn2 : n ≤ 100000) (hm2 : m ≤ 100000) (ha : IntsAt w A a) (hb : IntsAt w B b) :
    Calls Try.prog 35 #[.slice A n c, .slice B m d] w fun e w' => e = .returned (.bool r) ∧ Hid (Below w.heap.size w w') := by
  have HBQ : Hid (∀ q, Below w.heap.size w (w.drewN q)) := fun q => ⟨rfl, rfl, rfl, Nat.le_refl _, fun _ _ => rfl⟩
  have HN := Lib.hid hn
  have HM := Lib.hid hm
  have HA := Lib.hid ha
  have HB := Lib.hid hb
  by_cases hnm : n = m
  · have HR : Hid (∀ k : Nat, (∀ i : Nat, i < k → a[i]? = b[i]?) → n ≤ k → r = true) := fun k hk hnk => by
      rw [← hr, decide_eq_true_iff]
      apply List.ext_getElem?
      intro i
      by_cases hi : i < n
      · exact hk i (by omega)
      · rw [List.getElem?_eq_none (by omega), List.getElem?_eq_none (by omega)]
    have HF : Hid (∀ k : Nat, a[k]? ≠ b[k]? → r = false) := fun k hk => by
      rw [← hr, decide_eq_false_iff_not]
      exact fun e => hk (by rw [e])
    subst hnm
    have d1 : ((n : Int) != (n : Int)) = false := by simp
    clear ha hb hr hn hm
    go_enter Try.func35, Try.ntmps35
    go_wp2
    go_loopg [4, 13] n (fun gk s4 s13 W => ∃ (k q : Nat), k + gk = n ∧ s4 = .bool false ∧ s13 = .int .i64 k ∧ W = w.drewN q ∧ Hid (∀ i : Nat, i < k → a[i]? = b[i]?))
    case atStart => exact ⟨0, 0, by omega, rfl, rfl, rfl, fun i hi => by omega⟩
    case round =>
      obtain ⟨k, q, hkg, rfl, rfl, rfl, HK⟩ := hrel
      by_cases hlt : k < n
      · obtain ⟨gk, rfl⟩ : ∃ j, gk = j + 1 := ⟨gk - 1, by omega⟩
        obtain ⟨x, hx⟩ := mlist_at a k (by rw [HN.out]; exact hlt)
        obtain ⟨y, hy⟩ := mlist_at b k (by rw [HM.out]; exact hlt)
        obtain ⟨ad, rfl, hc0⟩ := HA.out k x hx
        obtain ⟨bd, rfl, hd0⟩ := HB.out k y hy
        have hc1 : (w.drewN q).cell? (ad.add k) = some (.int .i64 x) := by simpa using hc0
        have hd1 : (w.drewN q).cell? (bd.add k) = some (.int .i64 y) := by simpa using hd0
        have i1 : (0 : Int) ≤ (k : Int) := by omega
        have i2 : (k : Int) < (n : Int) := by omega
        have HW : Hid (∀ m, (w.drewN q).drewN m = w.drewN (q + m)) := fun m => by simp
        by_cases hxy : x = y
        · have heq : (x != y) = false := by rw [hxy]; simp
          have HK2 : Hid (∀ i : Nat, i < k + 1 → a[i]? = b[i]?) := fun i hi => by
            by_cases h : i < k
            · exact HK.out i h
            · obtain rfl : i = k := by omega
              rw [hx, hy, hxy]
          clear hx hy hxy hc0 hd0
          generalize w.drewN q = W at *
          go_wp2
          go_quiet (fail)
          go_wp2
          go_roundg gk
          case measure => omega
          case rel => exact ⟨k + 1, _, by omega, rfl, by first | rfl | go_num, HW.out _, HK2.out⟩
        · have heq : (x != y) = true := bne_iff_ne.2 hxy
          have HF2 := Lib.hid (HF.out k (by rw [hx, hy]; exact fun e => hxy (Option.some.inj e)))
          clear hx hy hxy hc0 hd0
          generalize w.drewN q = W at *
          go_wp2
          go_quiet (fail)
          go_wp2
          go_ret
          exact ⟨by rw [HF2.out]; rfl, by rw [HW.out]; exact HBQ.out _⟩
      · have HR2 := Lib.hid (HR.out k HK.out (by omega))
        have hk : k = n := by omega
        subst hk
        go_wp2
        go_ret
        exact ⟨by rw [HR2.out]; rfl, HBQ.out _⟩
  · have HF : Hid (r = false) := by rw [← hr]; exact decide_eq_false (fun e => hnm (by rw [← hn, ← hm, e]))
    have d1 : ((n : Int) != (m : Int)) = true := bne_iff_ne.2 (by omega)
    clear hnm ha hb hr hn hm
    go_enter Try.func35, Try.ntmps35
    go_wp2
    go_ret
    exact ⟨by rw [HF.out]; rfl, Below.refl _ _⟩
end Go.Proofs.Ytbacakblboodeaa
