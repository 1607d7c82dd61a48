/- What the library's sort, search, comparison and copy of lists of numbers leave, at this program. -/
import Derived.Shelf.Sort.Plain
import Derived.Shelf.Slices.SearchI
import Derived.Shelf.Slices.Empties
import Derived.Shelf.Slices.In.SortNone
import Derived.Test.YtgjmlnpfkmpfgaaGreatAreas
import Derived.Test.YtgjmlnpfkmpfgaaGreatMems
import Derived.Test.YtgjmlnpfkmpfgaaGreatMaths
namespace Go.Proofs.YtgjmlnpfkmpfgaaGreat
open Go.RowKit Go.Shelf Go.Sort
set_option linter.unusedVariables false

def Tryz.laysSort_ren : Go.Shelf.Ren := ⟨fun | 189 => 41 | 125 => 66 | 257 => 65 | 128 => 111 | 129 => 112 | 294 => 103 | 295 => 104 | 296 => 105 | 297 => 106 | 298 => 107 | 299 => 108 | 216 => 100 | 300 => 109 | 301 => 110 | 328 => 133 | 329 => 134 | 330 => 135 | 331 => 136 | 332 => 137 | 215 => 132 | 343 => 152 | n => n, fun | 28 => 30 | 3 => 3 | 46 => 105 | 0 => 0 | 51 => 143 | 53 => 145 | 4 => 4 | 183 => 137 | 182 => 136 | 131 => 99 | 5 => 5 | 9 => 9 | 218 => 164 | 222 => 168 | 228 => 183 | 229 => 184 | n => n, fun n => n⟩
theorem Tryz.laysSort : Lays.n189 Tryz.prog Tryz.laysSort_ren :=
  { mixed := by kernel_rfl,
    f125 := Tryz.func66.trans (congrArg some (by kernel_rfl)),
    f128 := Tryz.func111.trans (congrArg some (by kernel_rfl)),
    f129 := Tryz.func112.trans (congrArg some (by kernel_rfl)),
    f189 := Tryz.func41.trans (congrArg some (by kernel_rfl)),
    f215 := Tryz.func132.trans (congrArg some (by kernel_rfl)),
    f216 := Tryz.func100.trans (congrArg some (by kernel_rfl)),
    f257 := Tryz.func65.trans (congrArg some (by kernel_rfl)),
    f294 := Tryz.func103.trans (congrArg some (by kernel_rfl)),
    f295 := Tryz.func104.trans (congrArg some (by kernel_rfl)),
    f296 := Tryz.func105.trans (congrArg some (by kernel_rfl)),
    f297 := Tryz.func106.trans (congrArg some (by kernel_rfl)),
    f298 := Tryz.func107.trans (congrArg some (by kernel_rfl)),
    f299 := Tryz.func108.trans (congrArg some (by kernel_rfl)),
    f300 := Tryz.func109.trans (congrArg some (by kernel_rfl)),
    f301 := Tryz.func110.trans (congrArg some (by kernel_rfl)),
    f328 := Tryz.func133.trans (congrArg some (by kernel_rfl)),
    f329 := Tryz.func134.trans (congrArg some (by kernel_rfl)),
    f330 := Tryz.func135.trans (congrArg some (by kernel_rfl)),
    f331 := Tryz.func136.trans (congrArg some (by kernel_rfl)),
    f332 := Tryz.func137.trans (congrArg some (by kernel_rfl)),
    f343 := Tryz.func152.trans (congrArg some (by kernel_rfl)),
    t0 := Tryz.underlying0,
    a0 := Tryz.isAgg0,
    z0 := Tryz.sizeOf0,
    v0 := Tryz.zeroValue0,
    t3 := Tryz.underlying3,
    a3 := Tryz.isAgg3,
    z3 := Tryz.sizeOf3,
    v3 := Tryz.zeroValue3,
    t4 := Tryz.underlying4,
    a4 := Tryz.isAgg4,
    z4 := Tryz.sizeOf4,
    v4 := Tryz.zeroValue4,
    t5 := Tryz.underlying5,
    a5 := Tryz.isAgg5,
    z5 := Tryz.sizeOf5,
    v5 := Tryz.zeroValue5,
    t9 := Tryz.underlying9,
    a9 := Tryz.isAgg9,
    z9 := Tryz.sizeOf9,
    v9 := Tryz.zeroValue9,
    t28 := Tryz.underlying30,
    a28 := Tryz.isAgg30,
    z28 := Tryz.sizeOf30,
    v28 := Tryz.zeroValue30,
    t46 := Tryz.underlying105,
    a46 := Tryz.isAgg105,
    z46 := Tryz.sizeOf105,
    v46 := Tryz.zeroValue105,
    t51 := Tryz.underlying143,
    a51 := Tryz.isAgg143,
    z51 := Tryz.sizeOf143,
    v51 := Tryz.zeroValue143,
    t53 := Tryz.underlying145,
    a53 := Tryz.isAgg145,
    z53 := Tryz.sizeOf145,
    v53 := Tryz.zeroValue145,
    t131 := Tryz.underlying99,
    a131 := Tryz.isAgg99,
    z131 := Tryz.sizeOf99,
    v131 := Tryz.zeroValue99,
    t182 := Tryz.underlying136,
    a182 := Tryz.isAgg136,
    z182 := Tryz.sizeOf136,
    v182 := Tryz.zeroValue136,
    t183 := Tryz.underlying137,
    a183 := Tryz.isAgg137,
    z183 := Tryz.sizeOf137,
    v183 := Tryz.zeroValue137,
    t218 := Tryz.underlying164,
    a218 := Tryz.isAgg164,
    z218 := Tryz.sizeOf164,
    v218 := Tryz.zeroValue164,
    t222 := Tryz.underlying168,
    a222 := Tryz.isAgg168,
    z222 := Tryz.sizeOf168,
    v222 := Tryz.zeroValue168,
    t228 := Tryz.underlying183,
    a228 := Tryz.isAgg183,
    z228 := Tryz.sizeOf183,
    v228 := Tryz.zeroValue183,
    t229 := Tryz.underlying184,
    a229 := Tryz.isAgg184,
    z229 := Tryz.sizeOf184,
    v229 := Tryz.zeroValue184 }
def Tryz.laysSearch_ren : Go.Shelf.Ren := ⟨fun | 25 => 62 | 31 => 100 | 32 => 101 | 37 => 132 | n => n, fun | 22 => 30 | 3 => 3 | 4 => 4 | 40 => 105 | 0 => 0 | n => n, fun n => n⟩
theorem Tryz.laysSearch : Lays2.n25 Tryz.prog Tryz.laysSearch_ren :=
  { mixed := by kernel_rfl,
    f25 := Tryz.func62.trans (congrArg some (by kernel_rfl)),
    f31 := Tryz.func100.trans (congrArg some (by kernel_rfl)),
    f32 := Tryz.func101.trans (congrArg some (by kernel_rfl)),
    f37 := Tryz.func132.trans (congrArg some (by kernel_rfl)),
    t0 := Tryz.underlying0,
    a0 := Tryz.isAgg0,
    z0 := Tryz.sizeOf0,
    v0 := Tryz.zeroValue0,
    t3 := Tryz.underlying3,
    a3 := Tryz.isAgg3,
    z3 := Tryz.sizeOf3,
    v3 := Tryz.zeroValue3,
    t4 := Tryz.underlying4,
    a4 := Tryz.isAgg4,
    z4 := Tryz.sizeOf4,
    v4 := Tryz.zeroValue4,
    t22 := Tryz.underlying30,
    a22 := Tryz.isAgg30,
    z22 := Tryz.sizeOf30,
    v22 := Tryz.zeroValue30,
    t40 := Tryz.underlying105,
    a40 := Tryz.isAgg105,
    z40 := Tryz.sizeOf105,
    v40 := Tryz.zeroValue105 }

set_option maxRecDepth 100000

theorem add_flat (b o k : Nat) : (⟨b, o, none⟩ : Addr).add k = ⟨b, o + k, none⟩ := by unfold Addr.add; split <;> simp_all
/-- a sorted row -/
theorem below_sorted {base : Nat} (W : World) (n b o : Nat) (d : Array Int) (os : Array Obj) (hb : base ≤ b) (hs : base ≤ W.heap.size) : Below base W (grow (putRow (Value.int .i64) (Sort.ahead W n) b o d) os) := by
  refine ⟨rfl, rfl, rfl, ?_, fun k hk => ?_⟩
  · rw [size_grow, size_putRow]
    exact Nat.le_add_right _ _
  · rw [heap_grow_old _ _ (by rw [size_putRow]; exact Nat.lt_of_lt_of_le hk hs)]
    show (W.heap.modify b _)[k]? = _
    rw [Array.getElem?_modify, if_neg (by omega)]
theorem holds_ints {W : World} {b o : Nat} {l : List Int} (h : IntsAt W (some ⟨b, o, none⟩) l) (hf : ∀ k, k < l.length → W.frozen? ⟨b, o + k, none⟩ = false) : Holds (Value.int .i64) W b o l.toArray := by
  intro j hj
  have hj' : j < l.length := by simpa using hj
  obtain ⟨ad, e, hc⟩ := h j l[j] (List.getElem?_eq_getElem hj')
  obtain rfl := Option.some.inj e
  rw [add_flat] at hc
  refine ⟨?_, hf j hj'⟩
  rw [hc]
  simp [hj']
theorem ints_holds {W : World} {b o : Nat} {l : List Int} (h : Holds (Value.int .i64) W b o l.toArray) : IntsAt W (some ⟨b, o, none⟩) l := by
  intro k z hz
  obtain ⟨hk, e⟩ := List.getElem?_eq_some_iff.1 hz
  refine ⟨_, rfl, ?_⟩
  rw [add_flat, (h k (by simpa using hk)).1]
  simp [hk, e]
theorem sort_ints (b o n c : Nat) (l : List Int) (W : World) (base : Nat) (hn : l.length = n) (h : IntsAt W (some ⟨b, o, none⟩) l) (hf : ∀ k, k < l.length → W.frozen? ⟨b, o + k, none⟩ = false) (hb : base ≤ b) (hlt : b < W.heap.size) (hl : n ≤ 100000) :
    Calls Tryz.prog 41 #[.slice (some ⟨b, o, none⟩) n c] W fun e w' => e = .returned (.tuple #[]) ∧ Hid (Below base W w' ∧ IntsAt w' (some ⟨b, o, none⟩) (Pl.srt l)) := by
  subst hn
  have hH := holds_ints h hf
  have hc := Any.slices_Sort_int Tryz.laysSort b o c l W hH hlt (by omega)
  rw [Pl.merge_srt] at hc
  refine Calls.mono hc ?_
  rintro e w' ⟨rfl, q, os, rfl⟩
  refine ⟨rfl, below_sorted W q b o _ os hb (by omega), ints_holds ?_⟩
  have h2 : Holds (Value.int .i64) (putRow (Value.int .i64) (Sort.ahead W q) b o (Pl.srt l).toArray) b o (Pl.srt l).toArray := holds_putRow _ _ _ _ l.toArray _ hH (by simp [Pl.srt_len])
  exact holds_grow _ _ _ _ _ _ (by rw [size_putRow]; exact hlt) h2
/-- a row of one's own, sorted -/
theorem sort_own (A : Option Addr) (n c : Nat) (l : List Int) (W : World) (base : Nat) (h : OwnI W base (.slice A n c) l) (hb : base ≤ W.heap.size) (hl : n ≤ 100000) :
    Calls Tryz.prog 41 #[.slice A n c] W fun e w' => e = .returned (.tuple #[]) ∧ Hid (Below base W w' ∧ IntsAt w' A (Pl.srt l) ∧ l.length = n ∧ n ≤ c ∧ ∀ ad, A = some ad → base ≤ ad.block ∧ ad.spot = none) := by
  obtain ⟨A', c', e, h1, h2, hi⟩ := h.ints
  injection e with e1 e2 e3
  subst e1 e2 e3
  rcases h.2 with ⟨e, h0⟩ | ⟨g, cap, cur, e, hbg, hg, _⟩
  · injection e with e1 e2 e3
    subst e1 e3
    have : l = [] := List.eq_nil_of_length_eq_zero e2
    subst this
    refine Calls.mono (Any.slices_Sort_int_none Tryz.laysSort none 0 W) ?_
    rintro e w' ⟨rfl, rfl⟩
    exact ⟨rfl, Below.refl _ _, IntsAt.nil _ _, rfl, h1, fun ad e => by cases e⟩
  · injection e with e1 e2 e3
    subst e1 e3
    refine Calls.mono (sort_ints g 0 l.length c l W base rfl hi (fun k _ => ?_) hbg (Array.getElem?_eq_some_iff.1 hg).1 hl) ?_
    · unfold World.frozen?; rw [hg]; simp
    · rintro e w' ⟨rfl, h3⟩
      refine ⟨rfl, h3.out.1, h3.out.2, rfl, h1, fun ad e => ?_⟩
      obtain rfl := Option.some.inj e
      exact ⟨hbg, rfl⟩
/-- a block of numbers is such a row -/
theorem own_block {W : World} {g base : Nat} {l : List Int} (h : W.heap[g]? = some (.cells (l.map (Value.int .i64)).toArray 3 (0, 0))) (hb : base ≤ g) (hl : l.length ≤ 100000) : OwnI W base (.slice (some ⟨g, 0, none⟩) l.length l.length) l :=
  ⟨by simp, .inr ⟨g, l.length, (l.map (Value.int .i64)).toArray, rfl, hb, h, Nat.le_refl _, by unfold maxLen; omega, by simp, by simp [List.take_of_length_le]⟩⟩

/-- whether a number is in a rising row -/
theorem search_b (A : Option Addr) (n c : Nat) (l : List Int) (x : Int) (w : World) (r : Bool) (hr : Pl.outB l x = r) (hn : l.length = n) (h : IntsAt w A l) (hs : ∀ ad, A = some ad → ad.spot = none) (hp : l.Pairwise (· ≤ ·)) (hl : n ≤ 100000) :
    Calls Tryz.prog 62 #[.slice A n c, .int .i64 x] w fun e w' => ∃ p : Int, e = .returned (.tuple #[.int .i64 p, .bool (!r)]) ∧ Hid (Below w.heap.size w w') := by
  have hr' : (!r) = l.contains x := by rw [← hr]; unfold Pl.outB; simp
  rw [hr']
  cases l with
  | nil =>
    obtain rfl : n = 0 := hn.symm
    refine Calls.mono (Any.slices_BinarySearch_int_empty Tryz.laysSearch A c x w) ?_
    rintro e w' ⟨rfl, rfl⟩
    exact ⟨_, rfl, Below.refl _ _⟩
  | cons z l =>
    obtain ⟨⟨b, o, sp⟩, rfl, _⟩ := h 0 z rfl
    obtain rfl : sp = none := hs _ rfl
    have hc := Any.slices_BinarySearch_int Tryz.laysSearch b o n c (z :: l) x w (by rw [hn]; exact Nat.le_refl _) (by omega) (fun j hj => by
      obtain ⟨ad, e, h2⟩ := h j _ (List.getElem?_eq_getElem hj)
      obtain rfl := Option.some.inj e
      rw [add_flat] at h2
      rw [h2]
      rw [List.getD_eq_getElem?_getD, List.getElem?_eq_getElem hj]
      rfl) (by rw [← hn, List.take_length]; exact hp)
    rw [← hn, List.take_length] at hc
    rw [← hn]
    refine Calls.mono hc ?_
    rintro e w' ⟨rfl, q, rfl⟩
    exact ⟨_, rfl, ⟨rfl, rfl, rfl, Nat.le_refl _, fun _ _ => rfl⟩⟩

set_option maxHeartbeats 1000000 in
theorem equal_b (A B : Option Addr) (n c m d : Nat) (a b : List Int) (w : World) (r : Bool) (hr : decide (a = b) = r) (hn : a.length = n) (hm : b.length = m) (hn2 : n ≤ 100000) (hm2 : m ≤ 100000) (ha : IntsAt w A a) (hb : IntsAt w B b) :
    Calls Tryz.prog 34 #[.slice A n c, .slice B m d] w fun e w' => e = .returned (.bool r) ∧ Hid (Below w.heap.size w w') := by
  have HBQ : Hid (∀ q, Below w.heap.size w (w.drewN q)) := fun q => ⟨rfl, rfl, rfl, Nat.le_refl _, fun _ _ => rfl⟩
  have HN := Lib.hid hn
  have HM := Lib.hid hm
  have HA := Lib.hid ha
  have HB := Lib.hid hb
  by_cases hnm : n = m
  · have HR : Hid (∀ k : Nat, (∀ i : Nat, i < k → a[i]? = b[i]?) → n ≤ k → r = true) := fun k hk hnk => by
      rw [← hr, decide_eq_true_iff]
      apply List.ext_getElem?
      intro i
      by_cases hi : i < n
      · exact hk i (by omega)
      · rw [List.getElem?_eq_none (by omega), List.getElem?_eq_none (by omega)]
    have HF : Hid (∀ k : Nat, a[k]? ≠ b[k]? → r = false) := fun k hk => by
      rw [← hr, decide_eq_false_iff_not]
      exact fun e => hk (by rw [e])
    subst hnm
    have d1 : ((n : Int) != (n : Int)) = false := by simp
    clear ha hb hr hn hm
    go_enter Tryz.func34, Tryz.ntmps34
    go_wp2
    go_loopg [4, 13] n (fun gk s4 s13 W => ∃ (k q : Nat), k + gk = n ∧ s4 = .bool false ∧ s13 = .int .i64 k ∧ W = w.drewN q ∧ Hid (∀ i : Nat, i < k → a[i]? = b[i]?))
    case atStart => exact ⟨0, 0, by omega, rfl, rfl, rfl, fun i hi => by omega⟩
    case round =>
      obtain ⟨k, q, hkg, rfl, rfl, rfl, HK⟩ := hrel
      by_cases hlt : k < n
      · obtain ⟨gk, rfl⟩ : ∃ j, gk = j + 1 := ⟨gk - 1, by omega⟩
        obtain ⟨x, hx⟩ := mlist_at a k (by rw [HN.out]; exact hlt)
        obtain ⟨y, hy⟩ := mlist_at b k (by rw [HM.out]; exact hlt)
        obtain ⟨ad, rfl, hc0⟩ := HA.out k x hx
        obtain ⟨bd, rfl, hd0⟩ := HB.out k y hy
        have hc1 : (w.drewN q).cell? (ad.add k) = some (.int .i64 x) := by simpa using hc0
        have hd1 : (w.drewN q).cell? (bd.add k) = some (.int .i64 y) := by simpa using hd0
        have i1 : (0 : Int) ≤ (k : Int) := by omega
        have i2 : (k : Int) < (n : Int) := by omega
        have HW : Hid (∀ m, (w.drewN q).drewN m = w.drewN (q + m)) := fun m => by simp
        by_cases hxy : x = y
        · have heq : (x != y) = false := by rw [hxy]; simp
          have HK2 : Hid (∀ i : Nat, i < k + 1 → a[i]? = b[i]?) := fun i hi => by
            by_cases h : i < k
            · exact HK.out i h
            · obtain rfl : i = k := by omega
              rw [hx, hy, hxy]
          clear hx hy hxy hc0 hd0
          generalize w.drewN q = W at *
          go_wp2
          go_quiet (fail)
          go_wp2
          go_roundg gk
          case measure => omega
          case rel => exact ⟨k + 1, _, by omega, rfl, by first | rfl | go_num, HW.out _, HK2.out⟩
        · have heq : (x != y) = true := bne_iff_ne.2 hxy
          have HF2 := Lib.hid (HF.out k (by rw [hx, hy]; exact fun e => hxy (Option.some.inj e)))
          clear hx hy hxy hc0 hd0
          generalize w.drewN q = W at *
          go_wp2
          go_quiet (fail)
          go_wp2
          go_ret
          exact ⟨by rw [HF2.out]; rfl, by rw [HW.out]; exact HBQ.out _⟩
      · have HR2 := Lib.hid (HR.out k HK.out (by omega))
        have hk : k = n := by omega
        subst hk
        go_wp2
        go_ret
        exact ⟨by rw [HR2.out]; rfl, HBQ.out _⟩
  · have HF : Hid (r = false) := by rw [← hr]; exact decide_eq_false (fun e => hnm (by rw [← hn, ← hm, e]))
    have d1 : ((n : Int) != (m : Int)) = true := bne_iff_ne.2 (by omega)
    clear hnm ha hb hr hn hm
    go_enter Tryz.func34, Tryz.ntmps34
    go_wp2
    go_ret
    exact ⟨by rw [HF.out]; rfl, Below.refl _ _⟩
end Go.Proofs.YtgjmlnpfkmpfgaaGreat
