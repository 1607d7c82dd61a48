/- Contracts: what the laws on package disk call besides: Same, large, do. -/
import Derived.Test.YthodnmcjgcnbbaaDiskC
namespace Go.Proofs.Ythodnmcjgcnbbaa
open Go.RowKit

theorem u8_ne {x y : UInt8} (h : x ≠ y) : ((x.toNat : Int)) ≠ (y.toNat : Int) := fun e => h (UInt8.toNat_inj.1 (by omega))

set_option maxHeartbeats 2000000 in
set_option maxRecDepth 100000 in
theorem bsame_any (F : Nat → Prop) (A B : Option Addr) (n m c d : Nat) (a b : Dk.Bs) (w : World) (hn : a.length = n) (hm : b.length = m) (hn' : n ≤ maxLen) (hm' : m ≤ maxLen) (ha : BytesIn F w A a) (hb : BytesIn F w B b) :
    Calls Try.prog 17 #[.slice A n c, .slice B m d] w fun e w' => e = .returned (.bool (decide (a = b))) ∧ ∃ q, w' = w.drewN q := by
  unfold maxLen at hn' hm'
  have HA := Lib.hid ha
  have HB := Lib.hid hb
  have HN := Lib.hid hn
  have HM := Lib.hid hm
  clear ha hb hn hm
  by_cases hnm : n = m
  · subst hnm
    have HR : Hid (∀ k : Nat, (∀ i : Nat, i < k → a[i]? = b[i]?) → n ≤ k → decide (a = b) = true) := fun k h hk => decide_eq_true (List.ext_getElem? fun i => by
      by_cases hi : i < k
      · exact h i hi
      · rw [List.getElem?_eq_none (by rw [HN.out]; omega), List.getElem?_eq_none (by rw [HM.out]; omega)])
    have HF : Hid (∀ k : Nat, a[k]? ≠ b[k]? → decide (a = b) = false) := fun k h => decide_eq_false (fun e => h (by rw [e]))
    generalize decide (a = b) = r at *
    go_enter Try.func17, Try.ntmps17
    go_wp2
    go_loopg [4, 5] n (fun gk s4 s5 W => ∃ (k q : Nat), k + gk = n ∧ s4 = .bool false ∧ s5 = .int .i64 k ∧ W = w.drewN q ∧ Hid (∀ i : Nat, i < k → a[i]? = b[i]?))
    case atStart => exact ⟨0, 0, by omega, rfl, rfl, rfl, fun i hi => by omega⟩
    case round =>
      obtain ⟨k, q, hkg, rfl, rfl, rfl, HK⟩ := hrel
      by_cases hlt : k < n
      · obtain ⟨gk, rfl⟩ : ∃ j, gk = j + 1 := ⟨gk - 1, by omega⟩
        obtain ⟨x, hx⟩ := some_at a k (by rw [HN.out]; exact hlt)
        obtain ⟨y, hy⟩ := some_at b k (by rw [HM.out]; exact hlt)
        obtain ⟨ad, rfl, _, _, hc1⟩ := BytesIn.at_ (w := w.drewN q) HA.out hx
        obtain ⟨bd, rfl, _, _, hd1⟩ := BytesIn.at_ (w := w.drewN q) HB.out hy
        have i1 : (0 : Int) ≤ (k : Int) := by omega
        have i2 : (k : Int) < (n : Int) := by omega
        have HW : Hid (∀ m, (w.drewN q).drewN m = w.drewN (q + m)) := fun m => by simp
        by_cases hxy : x = y
        · have heq : ((x.toNat : Int) != (y.toNat : Int)) = false := by rw [hxy]; simp
          have HK2 : Hid (∀ i : Nat, i < k + 1 → a[i]? = b[i]?) := fun i hi => by
            by_cases h : i < k
            · exact HK.out i h
            · obtain rfl : i = k := by omega
              rw [hx, hy, hxy]
          clear hx hy hxy
          generalize w.drewN q = W at *
          go_wp2
          go_quiet (fail)
          go_wp2
          go_roundg gk
          case measure => omega
          case rel => exact ⟨k + 1, _, by omega, rfl, by first | rfl | go_num, HW.out _, HK2.out⟩
        · have heq : ((x.toNat : Int) != (y.toNat : Int)) = true := bne_iff_ne.2 (u8_ne hxy)
          have HF2 := Lib.hid (HF.out k (by rw [hx, hy]; exact fun e => hxy (Option.some.inj e)))
          clear hx hy hxy
          generalize w.drewN q = W at *
          go_wp2
          go_quiet (fail)
          go_wp2
          go_ret
          exact ⟨by rw [HF2.out]; rfl, _, HW.out _⟩
      · have HR2 := Lib.hid (HR.out k HK.out (by omega))
        have hk : k = n := by omega
        subst hk
        go_wp2
        go_ret
        exact ⟨by rw [HR2.out]; rfl, _, rfl⟩
  · have HF : Hid (decide (a = b) = false) := decide_eq_false (fun e => hnm (by rw [← HN.out, ← HM.out, e]))
    have d1 : ((n : Int) != (m : Int)) = true := bne_iff_ne.2 (by omega)
    generalize decide (a = b) = r at *
    clear hnm
    go_enter Try.func17, Try.ntmps17
    go_wp2
    go_ret
    exact ⟨by rw [HF.out]; rfl, 0, rfl⟩

/-- an operation, as it lies in memory -/
structure Ox where
  o : Int
  a : Int
  c : Int
  A : Option Addr
  m : Nat
  cap : Nat
  l : Dk.Bs

def oc (x : Ox) : List Value := [.int .i64 x.o, .int .i64 x.a, .int .i64 x.c, .slice x.A x.m x.cap]
def ocs (l : List Ox) : List Value := l.flatMap oc

/-- below block B lies what came in -/
def Mine (B : Nat) (i : Nat) : Prop := B ≤ i

structure OpOk (B : Nat) (w : World) (x : Ox) : Prop where
  a0 : -9223372036854775808 ≤ x.a
  a1 : x.a ≤ 9223372036854775807
  len : x.l.length = x.m
  m0 : x.m ≤ x.cap
  m1 : x.cap ≤ 140737488355328
  bytes : BytesIn (Mine B) w x.A x.l

def OpsIn (B : Nat) (w : World) (A : Option Addr) (l : List Ox) : Prop := CellsIn (Mine B) w A (ocs l) ∧ ∀ x ∈ l, OpOk B w x

theorem OpOk.keep {B : Nat} {w w' : World} {x : Ox} (h : OpOk B w x) (hk : Kept (Mine B) w w') : OpOk B w' x := ⟨h.a0, h.a1, h.len, h.m0, h.m1, CellsIn.keep h.bytes hk⟩
theorem OpsIn.keep {B : Nat} {w w' : World} {A : Option Addr} {l : List Ox} (h : OpsIn B w A l) (hk : Kept (Mine B) w w') : OpsIn B w' A l := ⟨h.1.keep hk, fun x hx => (h.2 x hx).keep hk⟩
theorem kept_mine {B g s : Nat} {w w' : World} (h : Kept (Two g s) w w') (hg : B ≤ g) (hs : B ≤ s) : Kept (Mine B) w w' := h.wide fun i _ hi => by
  rcases hi with rfl | rfl
  · exact hg
  · exact hs
theorem mine_two {B g s : Nat} (hg : B ≤ g) (hs : B ≤ s) {w : World} {A : Option Addr} {xs : List Value} (h : CellsIn (Mine B) w A xs) : CellsIn (Two g s) w A xs := h.less fun i _ hi => by
  rcases hi with rfl | rfl
  · exact hg
  · exact hs

theorem ocs_length (l : List Ox) : (ocs l).length = l.length * 4 := by
  induction l with
  | nil => rfl
  | cons v l ih => unfold ocs at ih ⊢; rw [List.flatMap_cons, List.length_append, ih]; simp [oc]; omega

theorem ocs_at (l : List Ox) (k : Nat) (x : Ox) (h : l[k]? = some x) : (ocs l)[k * 4]? = some (.int .i64 x.o) ∧ (ocs l)[k * 4 + 1]? = some (.int .i64 x.a) ∧ (ocs l)[k * 4 + 2]? = some (.int .i64 x.c) ∧ (ocs l)[k * 4 + 3]? = some (.slice x.A x.m x.cap) := by
  induction l generalizing k with
  | nil => simp at h
  | cons y l ih =>
    unfold ocs at ih ⊢
    rw [List.flatMap_cons]
    cases k with
    | zero => simp at h; subst h; simp [oc]
    | succ k =>
      simp at h
      have e1 : (k + 1) * 4 = k * 4 + 4 := by omega
      rw [e1]
      simp only [oc, List.cons_append, List.nil_append, List.getElem?_cons_succ]
      exact ih k h

theorem OpsIn.at_ {B : Nat} {w : World} {A : Option Addr} {l : List Ox} (h : OpsIn B w A l) {k : Nat} {x : Ox} (hx : l[k]? = some x) :
    ∃ ad, A = some ad ∧ ad.block < w.heap.size ∧ w.cell? (ad.add (k * 4)) = some (.int .i64 x.o) ∧ w.cell? ⟨(ad.add (k * 4)).block, (ad.add (k * 4)).off + 1, none⟩ = some (.int .i64 x.a) ∧
      w.cell? ⟨(ad.add (k * 4)).block, (ad.add (k * 4)).off + 2, none⟩ = some (.int .i64 x.c) ∧ w.cell? ⟨(ad.add (k * 4)).block, (ad.add (k * 4)).off + 3, none⟩ = some (.slice x.A x.m x.cap) := by
  obtain ⟨h0, h1, h2, h3⟩ := ocs_at l k x hx
  obtain ⟨ad, e, hb, _, c0⟩ := h.1 _ _ h0
  subst e
  obtain ⟨_, e, _, _, c1⟩ := h.1 _ _ h1
  obtain rfl := Option.some.inj e
  obtain ⟨_, e, _, _, c2⟩ := h.1 _ _ h2
  obtain rfl := Option.some.inj e
  obtain ⟨_, e, _, _, c3⟩ := h.1 _ _ h3
  obtain rfl := Option.some.inj e
  have step : ∀ (x : Addr) (i : Nat), 0 < i → x.add i = ⟨x.block, x.off + i, none⟩ := fun x i hi => by unfold Addr.add; rw [if_neg (by omega)]
  refine ⟨ad, rfl, hb, c0, ?_, ?_, ?_⟩
  · rw [← step _ 1 (by omega), add_add']; exact c1
  · rw [← step _ 2 (by omega), add_add']; exact c2
  · rw [← step _ 3 (by omega), add_add']; exact c3

def LargePost (n : Nat) (w : World) (e : Ending) (w' : World) : Prop := ∃ b : Bool, e = .returned (.bool b) ∧ w = w' ∧ (b = false → n ≤ 60)

set_option maxHeartbeats 2000000 in
set_option maxRecDepth 100000 in
theorem large_any (B : Nat) (A : Option Addr) (n c : Nat) (l : List Ox) (w : World) (hn : l.length = n) (hn' : n ≤ maxLen) (hl : OpsIn B w A l) :
    Calls Try.prog 7 #[.slice A n c] w fun e w' => LargePost n w e w' := by
  unfold maxLen at hn'
  have HV := Lib.hid hl
  have HN := Lib.hid hn
  clear hl hn
  go_enter Try.func7, Try.ntmps7
  go_wp2
  go_loop [3, 4] (fun x y => ∃ (k t : Nat), k ≤ n ∧ t ≤ 1000000000000000000 ∧ x = .int .i64 t ∧ y = .int .i64 k) (fun _ y => n - (intOf y).toNat)
  case atStart => exact ⟨0, 0, by omega, by omega, rfl, rfl⟩
  case round =>
    obtain ⟨k, t, hk, htt, rfl, rfl⟩ := hrel
    by_cases hlt : k < n ∧ t ≤ 4000
    · obtain ⟨hlt, ht2⟩ := hlt
      obtain ⟨v, hv⟩ := some_at l k (by rw [HN.out]; exact hlt)
      obtain ⟨ad, rfl, _, hc0, hc1, hc2, hc3⟩ := OpsIn.at_ HV.out hv
      have ok := HV.out.2 v (List.mem_of_getElem? hv)
      have hvs := ok.m0
      have hvs' := ok.m1
      clear hv ok
      go_wp2
      go_round
      case rel => exact ⟨k + 1, t + v.m, by omega, by omega, by first | rfl | go_num, by first | rfl | go_num⟩
      case measure => simp [intOf]; omega
    · by_cases hk2 : k < n
      · have d1 : decide ((k : Int) < (n : Int)) = true := decide_eq_true (by omega)
        have d2 : decide ((t : Int) ≤ 4000) = false := decide_eq_false (by omega)
        have d3 : decide ((4000 : Int) < (t : Int)) = true := decide_eq_true (by omega)
        clear hlt
        by_cases hn3 : 60 < n
        · have d4 : decide ((60 : Int) < (n : Int)) = true := decide_eq_true (by omega)
          clear hn3
          go_wp2
          go_ret
          exact ⟨true, rfl, rfl, fun h => by cases h⟩
        · have d4 : decide ((60 : Int) < (n : Int)) = false := decide_eq_false (by omega)
          clear hn3
          go_wp2
          go_ret
          exact ⟨true, rfl, rfl, fun h => by cases h⟩
      · have d1 : decide ((k : Int) < (n : Int)) = false := decide_eq_false (by omega)
        clear hlt
        by_cases hn3 : 60 < n
        · have d4 : decide ((60 : Int) < (n : Int)) = true := decide_eq_true (by omega)
          clear hn3
          go_wp2
          go_ret
          exact ⟨true, rfl, rfl, fun h => by cases h⟩
        · have d4 : decide ((60 : Int) < (n : Int)) = false := decide_eq_false (by omega)
          have HN3 := Lib.hid hn3
          clear hn3
          by_cases hb : 4000 < t
          · have d3 : decide ((4000 : Int) < (t : Int)) = true := decide_eq_true (by omega)
            clear hb
            go_wp2
            go_ret
            exact ⟨true, rfl, rfl, fun h => by cases h⟩
          · have d3 : decide ((4000 : Int) < (t : Int)) = false := decide_eq_false (by omega)
            clear hb
            go_wp2
            go_ret
            exact ⟨false, rfl, rfl, fun _ => by have := HN3.out; omega⟩

def lowByte (c : Int) : UInt8 := UInt8.ofNat (c % 256).toNat
theorem lowByte_toNat (c : Int) : ((lowByte c).toNat : Int) = c % 256 := by
  unfold lowByte
  rw [UInt8.toNat_ofNat']
  omega

def dcode (n : Nat) (d : Dk.D) (x : Ox) : Int := if x.o = 0 then Dk.wcode n d x.a x.l else if x.o = 3 then Dk.tcode n x.a else 0
def dstate (n : Nat) (d : Dk.D) (x : Ox) : Dk.D :=
  if x.o = 0 then Dk.wstate n d x.a x.l else if x.o = 1 then Dk.fuseTo d x.a x.c else if x.o = 2 then Dk.crash d else if x.o = 3 then Dk.tstate n d x.a (lowByte x.c) else d

theorem dstate_writes (n : Nat) (d : Dk.D) (x : Ox) : d.writes ≤ (dstate n d x).writes ∧ (dstate n d x).writes ≤ d.writes + 1 := by
  unfold dstate
  split
  · exact Dk.wstate_writes d x.a x.l
  split
  · simp only [Dk.fuseTo]; omega
  split
  · simp only [Dk.crash]; omega
  split
  · unfold Dk.tstate; split
    · simp only; omega
    · omega
  · omega

set_option maxHeartbeats 2000000 in
set_option maxRecDepth 100000 in
theorem do_any (g s n B : Nat) (d : Dk.D) (x : Ox) (w : World) (h : DiskAt w g s n d) (hw : d.writes ≤ 1000000) (hx : OpOk B w x) (hg : B ≤ g) (hs : B ≤ s) :
    Calls Try.prog 10 #[.pointer (some ⟨g, 0, none⟩), .agg #[.int .i64 x.o, .int .i64 x.a, .int .i64 x.c, .slice x.A x.m x.cap]] w fun e w' => e = .returned (.int .i64 (dcode n d x)) ∧ DiskAt w' g s n (dstate n d x) ∧ Kept (Two g s) w w' := by
  have HK0 : Hid (Kept No w (w.alloc (.cells #[.int .i64 x.o, .int .i64 x.a, .int .i64 x.c, .slice x.A x.m x.cap] 34))) := (Kept.refl No w).alloc _
  have HK2 : Hid (Kept (Two g s) w (w.alloc (.cells #[.int .i64 x.o, .int .i64 x.a, .int .i64 x.c, .slice x.A x.m x.cap] 34))) := (Kept.refl (Two g s) w).alloc _
  have HD := Lib.hid (h.keep HK0.out id id)
  have a0 := hx.a0
  have a1 := hx.a1
  have m0 := hx.m0
  have m1 := hx.m1
  by_cases o0 : x.o = 0
  · have HC : Hid (dcode n d x = Dk.wcode n d x.a x.l) := by unfold Hid dcode; rw [if_pos o0]
    have HS : Hid (dstate n d x = Dk.wstate n d x.a x.l) := by unfold Hid dstate; rw [if_pos o0]
    have HB : Hid (BytesIn (Two g s) (w.alloc (.cells #[.int .i64 x.o, .int .i64 x.a, .int .i64 x.c, .slice x.A x.m x.cap] 34)) x.A x.l) := CellsIn.keep (mine_two hg hs hx.bytes) HK2.out
    have HW := Lib.hid (write_any g s n d x.a x.A x.m x.cap x.l _ HD.out hw hx.len (by unfold maxLen; omega) HB.out)
    have d0 : (x.o == 0) = true := beq_iff_eq.2 o0
    clear h hx hw HB o0
    generalize x.o = xo at *
    go_enter Try.func10, Try.ntmps10
    go_wp2_with (go_at_call 21; refine HW.out.mono ?_; rintro e w1 ⟨rfl, h1, hk1⟩; have H1 := Lib.hid h1; have HK1 := Lib.hid hk1; clear h1 hk1)
    go_ret
    exact ⟨by rw [HC.out]; rfl, by rw [HS.out]; exact H1.out, HK2.out.trans HK1.out⟩
  have d0 : (x.o == 0) = false := beq_eq_false_iff_ne.2 o0
  by_cases o1 : x.o = 1
  · have HC : Hid (dcode n d x = 0) := by unfold Hid dcode; rw [if_neg o0, if_neg (by omega)]
    have HS : Hid (dstate n d x = Dk.fuseTo d x.a x.c) := by unfold Hid dstate; rw [if_neg o0, if_pos o1]
    have HW := Lib.hid (fuse_any g s n d x.a x.c _ HD.out a0 a1)
    have d1 : (x.o == 1) = true := beq_iff_eq.2 o1
    clear h hx hw o0 o1
    generalize x.o = xo at *
    go_enter Try.func10, Try.ntmps10
    go_wp2_with (go_at_call 20; refine HW.out.mono ?_; rintro e w1 ⟨rfl, h1, hk1⟩; have H1 := Lib.hid h1; have HK1 := Lib.hid hk1; clear h1 hk1)
    go_ret
    exact ⟨by rw [HC.out]; rfl, by rw [HS.out]; exact H1.out, HK2.out.trans HK1.out⟩
  have d1 : (x.o == 1) = false := beq_eq_false_iff_ne.2 o1
  by_cases o2 : x.o = 2
  · have HC : Hid (dcode n d x = 0) := by unfold Hid dcode; rw [if_neg o0, if_neg (by omega)]
    have HS : Hid (dstate n d x = Dk.crash d) := by unfold Hid dstate; rw [if_neg o0, if_neg o1, if_pos o2]
    have HW := Lib.hid (crash_any g s n d _ HD.out)
    have d2 : (x.o == 2) = true := beq_iff_eq.2 o2
    clear h hx hw o0 o1 o2
    generalize x.o = xo at *
    go_enter Try.func10, Try.ntmps10
    go_wp2_with (go_at_call 22; refine HW.out.mono ?_; rintro e w1 ⟨rfl, h1, hk1⟩; have H1 := Lib.hid h1; have HK1 := Lib.hid hk1; clear h1 hk1)
    go_ret
    exact ⟨by rw [HC.out]; rfl, by rw [HS.out]; exact H1.out, HK2.out.trans HK1.out⟩
  have d2 : (x.o == 2) = false := beq_eq_false_iff_ne.2 o2
  by_cases o3 : x.o = 3
  · have HC : Hid (dcode n d x = Dk.tcode n x.a) := by unfold Hid dcode; rw [if_neg o0, if_pos o3]
    have HS : Hid (dstate n d x = Dk.tstate n d x.a (lowByte x.c)) := by unfold Hid dstate; rw [if_neg o0, if_neg o1, if_neg o2, if_pos o3]
    have hW := turn_any g s n d x.a (lowByte x.c) _ HD.out a1
    rw [lowByte_toNat] at hW
    have HW := Lib.hid hW
    have d3 : (x.o == 3) = true := beq_iff_eq.2 o3
    clear h hx hw o0 o1 o2 o3 hW
    generalize x.o = xo at *
    go_enter Try.func10, Try.ntmps10
    go_wp2_with (go_at_call 23; refine HW.out.mono ?_; rintro e w1 ⟨rfl, h1, hk1⟩; have H1 := Lib.hid h1; have HK1 := Lib.hid hk1; clear h1 hk1)
    go_ret
    exact ⟨by rw [HC.out]; rfl, by rw [HS.out]; exact H1.out, HK2.out.trans HK1.out⟩
  have d3 : (x.o == 3) = false := beq_eq_false_iff_ne.2 o3
  have HC : Hid (dcode n d x = 0) := by unfold Hid dcode; rw [if_neg o0, if_neg o3]
  have HS : Hid (dstate n d x = d) := by unfold Hid dstate; rw [if_neg o0, if_neg o1, if_neg o2, if_neg o3]
  clear h hx hw o0 o1 o2 o3
  generalize x.o = xo at *
  go_enter Try.func10, Try.ntmps10
  go_wp2
  go_ret
  exact ⟨by rw [HC.out]; rfl, by rw [HS.out]; exact HD.out, HK2.out⟩

end Go.Proofs.Ythodnmcjgcnbbaa
