/- Contracts of the laws' own functions: operations in memory, large, many, Same. -/
import Derived.Test.YtoocifoglhhnmaaLogOpen
namespace Go.Proofs.Ytoocifoglhhnmaa
open Go.RowKit
set_option linter.unusedVariables false
/-- an operation, as it lies in memory -/
structure Ox where
  o : Int
  a : Int
  c : Int
  A : Option Addr
  m : Nat
  cap : Nat
  l : Dk.Bs

def oc (x : Ox) : List Value := [.int .i64 x.o, .int .i64 x.a, .int .i64 x.c, .slice x.A x.m x.cap]
def ocs (l : List Ox) : List Value := l.flatMap oc

/-- below block B lies what came in -/
def Mine (B : Nat) (i : Nat) : Prop := B ≤ i

structure OpOk (B : Nat) (w : World) (x : Ox) : Prop where
  a0 : -9223372036854775808 ≤ x.a
  a1 : x.a ≤ 9223372036854775807
  len : x.l.length = x.m
  m0 : x.m ≤ x.cap
  m1 : x.cap ≤ 140737488355328
  bytes : BytesIn (Mine B) w x.A x.l

def OpsIn (B : Nat) (w : World) (A : Option Addr) (l : List Ox) : Prop := CellsIn (Mine B) w A (ocs l) ∧ ∀ x ∈ l, OpOk B w x

theorem OpOk.keep {B : Nat} {w w' : World} {x : Ox} (h : OpOk B w x) (hk : Kept (Mine B) w w') : OpOk B w' x := ⟨h.a0, h.a1, h.len, h.m0, h.m1, CellsIn.keep h.bytes hk⟩
theorem OpsIn.keep {B : Nat} {w w' : World} {A : Option Addr} {l : List Ox} (h : OpsIn B w A l) (hk : Kept (Mine B) w w') : OpsIn B w' A l := ⟨h.1.keep hk, fun x hx => (h.2 x hx).keep hk⟩
theorem kept_mine {B g s : Nat} {w w' : World} (h : Kept (Two g s) w w') (hg : B ≤ g) (hs : B ≤ s) : Kept (Mine B) w w' := h.wide fun i _ hi => by
  rcases hi with rfl | rfl
  · exact hg
  · exact hs
theorem mine_two {B g s : Nat} (hg : B ≤ g) (hs : B ≤ s) {w : World} {A : Option Addr} {xs : List Value} (h : CellsIn (Mine B) w A xs) : CellsIn (Two g s) w A xs := h.less fun i _ hi => by
  rcases hi with rfl | rfl
  · exact hg
  · exact hs

theorem ocs_length (l : List Ox) : (ocs l).length = l.length * 4 := by
  induction l with
  | nil => rfl
  | cons v l ih => unfold ocs at ih ⊢; rw [List.flatMap_cons, List.length_append, ih]; simp [oc]; omega

theorem ocs_at (l : List Ox) (k : Nat) (x : Ox) (h : l[k]? = some x) : (ocs l)[k * 4]? = some (.int .i64 x.o) ∧ (ocs l)[k * 4 + 1]? = some (.int .i64 x.a) ∧ (ocs l)[k * 4 + 2]? = some (.int .i64 x.c) ∧ (ocs l)[k * 4 + 3]? = some (.slice x.A x.m x.cap) := by
  induction l generalizing k with
  | nil => simp at h
  | cons y l ih =>
    unfold ocs at ih ⊢
    rw [List.flatMap_cons]
    cases k with
    | zero => simp at h; subst h; simp [oc]
    | succ k =>
      simp at h
      have e1 : (k + 1) * 4 = k * 4 + 4 := by omega
      rw [e1]
      simp only [oc, List.cons_append, List.nil_append, List.getElem?_cons_succ]
      exact ih k h

theorem OpsIn.at_ {B : Nat} {w : World} {A : Option Addr} {l : List Ox} (h : OpsIn B w A l) {k : Nat} {x : Ox} (hx : l[k]? = some x) :
    ∃ ad, A = some ad ∧ ad.block < w.heap.size ∧ w.cell? (ad.add (k * 4)) = some (.int .i64 x.o) ∧ w.cell? ⟨(ad.add (k * 4)).block, (ad.add (k * 4)).off + 1, none⟩ = some (.int .i64 x.a) ∧
      w.cell? ⟨(ad.add (k * 4)).block, (ad.add (k * 4)).off + 2, none⟩ = some (.int .i64 x.c) ∧ w.cell? ⟨(ad.add (k * 4)).block, (ad.add (k * 4)).off + 3, none⟩ = some (.slice x.A x.m x.cap) := by
  obtain ⟨h0, h1, h2, h3⟩ := ocs_at l k x hx
  obtain ⟨ad, e, hb, _, c0⟩ := h.1 _ _ h0
  subst e
  obtain ⟨_, e, _, _, c1⟩ := h.1 _ _ h1
  obtain rfl := Option.some.inj e
  obtain ⟨_, e, _, _, c2⟩ := h.1 _ _ h2
  obtain rfl := Option.some.inj e
  obtain ⟨_, e, _, _, c3⟩ := h.1 _ _ h3
  obtain rfl := Option.some.inj e
  have step : ∀ (x : Addr) (i : Nat), 0 < i → x.add i = ⟨x.block, x.off + i, none⟩ := fun x i hi => by unfold Addr.add; rw [if_neg (by omega)]
  refine ⟨ad, rfl, hb, c0, ?_, ?_, ?_⟩
  · rw [← step _ 1 (by omega), add_add']; exact c1
  · rw [← step _ 2 (by omega), add_add']; exact c2
  · rw [← step _ 3 (by omega), add_add']; exact c3

def LargePost (n : Nat) (w : World) (e : Ending) (w' : World) : Prop := ∃ b : Bool, e = .returned (.bool b) ∧ w = w' ∧ (b = false → n ≤ 40)

set_option maxHeartbeats 2000000 in
set_option maxRecDepth 100000 in
theorem large_any (B : Nat) (A : Option Addr) (n c : Nat) (l : List Ox) (w : World) (hn : l.length = n) (hn' : n ≤ maxLen) (hl : OpsIn B w A l) :
    Calls Try.prog 7 #[.slice A n c] w fun e w' => LargePost n w e w' := by
  unfold maxLen at hn'
  have HV := Lib.hid hl
  have HN := Lib.hid hn
  clear hl hn
  go_enter Try.func7, Try.ntmps7
  go_wp2
  go_loop [3, 4] (fun x y => ∃ (k t : Nat), k ≤ n ∧ t ≤ 1000000000000000000 ∧ x = .int .i64 t ∧ y = .int .i64 k) (fun _ y => n - (intOf y).toNat)
  case atStart => exact ⟨0, 0, by omega, by omega, rfl, rfl⟩
  case round =>
    obtain ⟨k, t, hk, htt, rfl, rfl⟩ := hrel
    by_cases hlt : k < n ∧ t ≤ 4000
    · obtain ⟨hlt, ht2⟩ := hlt
      obtain ⟨v, hv⟩ := some_at l k (by rw [HN.out]; exact hlt)
      obtain ⟨ad, rfl, _, hc0, hc1, hc2, hc3⟩ := OpsIn.at_ HV.out hv
      have ok := HV.out.2 v (List.mem_of_getElem? hv)
      have hvs := ok.m0
      have hvs' := ok.m1
      clear hv ok
      go_wp2
      go_round
      case rel => exact ⟨k + 1, t + 4 * v.m, by omega, by omega, by first | rfl | go_num, by first | rfl | go_num⟩
      case measure => simp [intOf]; omega
    · by_cases hk2 : k < n
      · have d1 : decide ((k : Int) < (n : Int)) = true := decide_eq_true (by omega)
        have d2 : decide ((t : Int) ≤ 4000) = false := decide_eq_false (by omega)
        have d3 : decide ((4000 : Int) < (t : Int)) = true := decide_eq_true (by omega)
        clear hlt
        by_cases hn3 : 40 < n
        · have d4 : decide ((40 : Int) < (n : Int)) = true := decide_eq_true (by omega)
          clear hn3
          go_wp2
          go_ret
          exact ⟨true, rfl, rfl, fun h => by cases h⟩
        · have d4 : decide ((40 : Int) < (n : Int)) = false := decide_eq_false (by omega)
          clear hn3
          go_wp2
          go_ret
          exact ⟨true, rfl, rfl, fun h => by cases h⟩
      · have d1 : decide ((k : Int) < (n : Int)) = false := decide_eq_false (by omega)
        clear hlt
        by_cases hn3 : 40 < n
        · have d4 : decide ((40 : Int) < (n : Int)) = true := decide_eq_true (by omega)
          clear hn3
          go_wp2
          go_ret
          exact ⟨true, rfl, rfl, fun h => by cases h⟩
        · have d4 : decide ((40 : Int) < (n : Int)) = false := decide_eq_false (by omega)
          have HN3 := Lib.hid hn3
          clear hn3
          by_cases hb : 4000 < t
          · have d3 : decide ((4000 : Int) < (t : Int)) = true := decide_eq_true (by omega)
            clear hb
            go_wp2
            go_ret
            exact ⟨true, rfl, rfl, fun h => by cases h⟩
          · have d3 : decide ((4000 : Int) < (t : Int)) = false := decide_eq_false (by omega)
            clear hb
            go_wp2
            go_ret
            exact ⟨false, rfl, rfl, fun _ => by have := HN3.out; omega⟩

def lowByte (c : Int) : UInt8 := UInt8.ofNat (c % 256).toNat
theorem lowByte_toNat (c : Int) : ((lowByte c).toNat : Int) = c % 256 := by
  unfold lowByte
  rw [UInt8.toNat_ofNat']
  omega

/-- a box with an operation -/
def OBox (w : World) (b : Nat) (x : Ox) : Prop := w.heap[b]? = some (.cells #[.int .i64 x.o, .int .i64 x.a, .int .i64 x.c, .slice x.A x.m x.cap] 40 (0, 0))
theorem OBox.lt {w : World} {b : Nat} {x : Ox} (h : OBox w b x) : b < w.heap.size := (Array.getElem?_eq_some_iff.1 h).1
theorem OBox.keep {F : Nat → Prop} {w w' : World} {b : Nat} {x : Ox} (h : OBox w b x) (hk : Kept F w w') (hn : ¬ F b) : OBox w' b x := (hk.block b h.lt hn).trans h
theorem OBox.c0 {w : World} {b : Nat} {x : Ox} (h : OBox w b x) : w.cell? ⟨b, 0, none⟩ = some (.int .i64 x.o) := by rw [cell_of_row w b 0 _ _ _ h]; rfl
theorem OBox.c1 {w : World} {b : Nat} {x : Ox} (h : OBox w b x) : w.cell? ⟨b, 1, none⟩ = some (.int .i64 x.a) := by rw [cell_of_row w b 1 _ _ _ h]; rfl
theorem OBox.c2 {w : World} {b : Nat} {x : Ox} (h : OBox w b x) : w.cell? ⟨b, 2, none⟩ = some (.int .i64 x.c) := by rw [cell_of_row w b 2 _ _ _ h]; rfl
theorem OBox.c3 {w : World} {b : Nat} {x : Ox} (h : OBox w b x) : w.cell? ⟨b, 3, none⟩ = some (.slice x.A x.m x.cap) := by rw [cell_of_row w b 3 _ _ _ h]; rfl

/-- how often many has a record -/
def often (x : Ox) : Nat := (min x.a 4).toNat
def manyL (x : Ox) : List Dk.Bs := List.replicate (often x) x.l
def manyV (x : Ox) (k : Nat) : List Value := List.replicate k (.slice x.A x.m x.cap)

set_option maxHeartbeats 2000000 in
set_option maxRecDepth 100000 in
theorem many_any (x : Ox) (w : World) :
    Calls Try.prog 19 #[.agg #[.int .i64 x.o, .int .i64 x.a, .int .i64 x.c, .slice x.A x.m x.cap]] w fun e w' => ∃ v, e = .returned v ∧ w'.ownsRow w.heap.size 38 1 v (often x) (manyV x (often x)) ∧ Below w.heap.size w w' := by
  obtain ⟨K, hK⟩ : ∃ K, often x = K := ⟨_, rfl⟩
  rw [hK]
  have hK4 : K ≤ 4 := by unfold often at hK; omega
  have HBX : Hid (OBox (w.alloc (.cells #[.int .i64 x.o, .int .i64 x.a, .int .i64 x.c, .slice x.A x.m x.cap] 40)) w.heap.size x) := heap_alloc_new w _
  have HB0 : Hid (Below w.heap.size w (w.alloc (.cells #[.int .i64 x.o, .int .i64 x.a, .int .i64 x.c, .slice x.A x.m x.cap] 40))) := (Below.refl _ _).alloc (Nat.le_refl _) _
  have hcase : (4 < x.a ∧ K = 4) ∨ (x.a = 4 ∧ K = 4) ∨ (x.a < 4 ∧ (K : Int) = max x.a 0) := by unfold often at hK; omega
  clear hK
  go_enter Try.func19, Try.ntmps19
  go_wp2
  generalize w.alloc (.cells #[.int .i64 x.o, .int .i64 x.a, .int .i64 x.c, .slice x.A x.m x.cap] 40) = W0 at *
  go_loopg [3, 4] K (fun gk s3 s4 W => ∃ (k : Nat), k + gk = K ∧ s4 = .int .i64 k ∧ Hid (W.ownsRow w.heap.size 38 1 s3 k (manyV x k)) ∧ Hid (OBox W w.heap.size x) ∧ Hid (Below w.heap.size w W))
  case atStart => exact ⟨0, by omega, rfl, World.ownsRow_nil _ _ _ _, HBX.out, HB0.out⟩
  case round =>
    clear HBX HB0
    obtain ⟨k, hkg, rfl, HO, HX, HB⟩ := hrel
    have z1 := HX.out.c1
    have z3 := HX.out.c3
    cases gk with
    | zero =>
      obtain rfl : k = K := by omega
      rcases hcase with ⟨h4, rfl⟩ | ⟨h4, rfl⟩ | ⟨h4, hk⟩
      · go_wp2
        go_ret
        exact ⟨_, rfl, HO.out, HB.out⟩
      · rw [h4] at z1
        go_wp2
        go_ret
        exact ⟨_, rfl, HO.out, HB.out⟩
      · have d1 : decide ((k : Int) < x.a) = false := decide_eq_false (by omega)
        go_wp2
        go_ret
        exact ⟨_, rfl, HO.out, HB.out⟩
    | succ q =>
      obtain ⟨A', c', w6, hr, ho6, hk6⟩ := val_app wr w.heap.size _ k (manyV x k) HO.out HB.out.size (by omega) x.A x.m x.cap
      have HA : Hid (∃ v' w', (Builtin.append_ #[45, 45] 45 #[u3, .slice (some ⟨wr.heap.size, 0, none⟩) 1 1]).run Try.prog (wr.alloc (.cells #[.slice x.A x.m x.cap] 38)) = .ok v' w' ∧ (w'.ownsRow w.heap.size 38 1 v' (k + 1) (manyV x (k + 1)) ∧ OBox w' w.heap.size x ∧ Below w.heap.size w w')) := by
        refine ⟨_, w6, hr, ?_, HX.out.keep hk6 (fun e => own_ne HO.out HX.out (by decide) e.symm), hk6.below HB.out HB.out.size (fun i hi e => by have := (HO.out.lt i e).1; omega)⟩
        unfold manyV at ho6 ⊢
        rw [List.replicate_succ']
        exact ho6
      clear hr ho6 hk6
      have hlt : k < K := by omega
      rcases hcase with ⟨h4, rfl⟩ | ⟨h4, rfl⟩ | ⟨h4, hk⟩
      · have d1 : decide ((k : Int) < 4) = true := decide_eq_true (by omega)
        go_wp2_with (at_builtin; refine wpList_append_any rfl (.tmp 12) (.tmp 15) 45 45 rfl _ _ rfl rfl _ HA.out ?_; intro v2 w2 hap; have HAP := Lib.hid hap; clear hap)
        go_roundg q
        case measure => omega
        case rel => exact ⟨k + 1, by omega, by first | rfl | go_num, HAP.out.1, HAP.out.2.1, HAP.out.2.2⟩
      · have d1 : decide ((k : Int) < 4) = true := decide_eq_true (by omega)
        rw [h4] at z1
        clear h4
        go_wp2_with (at_builtin; refine wpList_append_any rfl (.tmp 12) (.tmp 15) 45 45 rfl _ _ rfl rfl _ HA.out ?_; intro v2 w2 hap; have HAP := Lib.hid hap; clear hap)
        go_roundg q
        case measure => omega
        case rel => exact ⟨k + 1, by omega, by first | rfl | go_num, HAP.out.1, HAP.out.2.1, HAP.out.2.2⟩
      · have d1 : decide ((k : Int) < x.a) = true := decide_eq_true (by omega)
        go_wp2_with (at_builtin; refine wpList_append_any rfl (.tmp 12) (.tmp 15) 45 45 rfl _ _ rfl rfl _ HA.out ?_; intro v2 w2 hap; have HAP := Lib.hid hap; clear hap)
        go_roundg q
        case measure => omega
        case rel => exact ⟨k + 1, by omega, by first | rfl | go_num, HAP.out.1, HAP.out.2.1, HAP.out.2.2⟩

/-- slices of one value each as records -/
theorem rowIn_many {F : Nat → Prop} {w : World} {base : Nat} {v : Value} {k : Nat} {x : Ox} (h : w.ownsRow base 38 1 v k (manyV x k)) (hx : SlIn F w (.slice x.A x.m x.cap) x.l) (hF : ∀ i, F i → i < base) :
    ∃ A c, v = .slice A k c ∧ RowIn F w A (List.replicate k x.l) := by
  obtain ⟨A, c, e, _, _, hc, _⟩ := ownsRow_slice h
  refine ⟨A, c, e, fun i r hr => ?_⟩
  have hik : i < k := by have := (List.getElem?_eq_some_iff.1 hr).1; simpa using this
  rw [List.getElem?_replicate, if_pos hik] at hr
  obtain rfl := Option.some.inj hr
  obtain ⟨ad, e1, e2, e3, e4⟩ := hc F hF i (.slice x.A x.m x.cap) (by unfold manyV; rw [List.getElem?_replicate, if_pos hik])
  exact ⟨ad, _, e1, e2, e3, e4, hx⟩

set_option maxHeartbeats 2000000 in
set_option maxRecDepth 100000 in
theorem rsame_any (F : Nat → Prop) (A B : Option Addr) (n m c d : Nat) (a b : List Dk.Bs) (w : World) (hn : a.length = n) (hm : b.length = m) (hn' : n ≤ 100000) (hm' : m ≤ 100000) (ha : RowIn F w A a) (hb : RowIn F w B b) :
    Calls Try.prog 24 #[.slice A n c, .slice B m d] w fun e w' => e = .returned (.bool (decide (a = b))) ∧ ∃ q, w' = w.drewN q := by
  have HA := Lib.hid ha
  have HB := Lib.hid hb
  have HN := Lib.hid hn
  have HM := Lib.hid hm
  clear ha hb hn hm
  by_cases hnm : n = m
  · subst hnm
    have HR : Hid (∀ k : Nat, (∀ i : Nat, i < k → a[i]? = b[i]?) → n ≤ k → decide (a = b) = true) := fun k h hk => decide_eq_true (List.ext_getElem? fun i => by
      by_cases hi : i < k
      · exact h i hi
      · rw [List.getElem?_eq_none (by rw [HN.out]; omega), List.getElem?_eq_none (by rw [HM.out]; omega)])
    have HF : Hid (∀ k : Nat, a[k]? ≠ b[k]? → decide (a = b) = false) := fun k h => decide_eq_false (fun e => h (by rw [e]))
    generalize decide (a = b) = r at *
    go_enter Try.func24, Try.ntmps24
    go_wp2
    go_loopg [4, 5] n (fun gk s4 s5 W => ∃ (k q : Nat), k + gk = n ∧ s4 = .bool false ∧ s5 = .int .i64 k ∧ W = w.drewN q ∧ Hid (∀ i : Nat, i < k → a[i]? = b[i]?))
    case atStart => exact ⟨0, 0, by omega, rfl, rfl, rfl, fun i hi => by omega⟩
    case round =>
      obtain ⟨k, q, hkg, rfl, rfl, rfl, HK⟩ := hrel
      by_cases hlt : k < n
      · obtain ⟨gk, rfl⟩ : ∃ j, gk = j + 1 := ⟨gk - 1, by omega⟩
        obtain ⟨x, hx⟩ := some_at a k (by rw [HN.out]; exact hlt)
        obtain ⟨y, hy⟩ := some_at b k (by rw [HM.out]; exact hlt)
        obtain ⟨ad, v1, rfl, _, _, hc1, A1, c1, rfl, hq1, hq2, hb1⟩ := HA.out k x hx
        obtain ⟨bd, v2, rfl, _, _, hd1, A2, c2, rfl, hq3, hq4, hb2⟩ := HB.out k y hy
        have hc1' : (w.drewN q).cell? (ad.add k) = some (.slice A1 x.length c1) := hc1
        have hd1' : (w.drewN q).cell? (bd.add k) = some (.slice A2 y.length c2) := hd1
        have i1 : (0 : Int) ≤ (k : Int) := by omega
        have i2 : (k : Int) < (n : Int) := by omega
        have HW : Hid (∀ m, (w.drewN q).drewN m = w.drewN (q + m)) := fun m => by simp
        have HS : Hid (∀ m, Calls Try.prog 53 #[.slice A1 x.length c1, .slice A2 y.length c2] ((w.drewN q).drewN m) fun e w' => e = .returned (.bool (decide (x = y))) ∧ ∃ j, w' = (w.drewN q).drewN j) := fun m => by
          refine (bsame_any F A1 A2 x.length y.length c1 c2 x y ((w.drewN q).drewN m) rfl rfl (by omega) (by omega) hb1 hb2).mono fun e w' ⟨e1, j, e2⟩ => ⟨e1, m + j, by rw [e2]; simp [Nat.add_assoc]⟩
        by_cases hxy : x = y
        · rw [decide_eq_true hxy] at HS
          have HK2 : Hid (∀ i : Nat, i < k + 1 → a[i]? = b[i]?) := fun i hi => by
            by_cases h : i < k
            · exact HK.out i h
            · obtain rfl : i = k := by omega
              rw [hx, hy, hxy]
          clear hx hy hxy hc1 hd1 hb1 hb2
          generalize w.drewN q = W at *
          generalize x.length = lx at *
          generalize y.length = ly at *
          go_wp2
          go_quiet ((go_at_call 53; exact HS.out _))
          go_wp2
          go_roundg gk
          case measure => omega
          case rel => exact ⟨k + 1, _, by omega, rfl, by first | rfl | go_num, HW.out _, HK2.out⟩
        · rw [decide_eq_false hxy] at HS
          have HF2 := Lib.hid (HF.out k (by rw [hx, hy]; exact fun e => hxy (Option.some.inj e)))
          clear hx hy hxy hc1 hd1 hb1 hb2
          generalize w.drewN q = W at *
          generalize x.length = lx at *
          generalize y.length = ly at *
          go_wp2
          go_quiet ((go_at_call 53; exact HS.out _))
          go_wp2
          go_ret
          exact ⟨by rw [HF2.out]; rfl, _, HW.out _⟩
      · obtain rfl : k = n := by omega
        have HR2 := Lib.hid (HR.out k HK.out (by omega))
        go_wp2
        go_ret
        exact ⟨by rw [HR2.out]; rfl, q, rfl⟩
  · have HF : Hid (decide (a = b) = false) := decide_eq_false (fun e => hnm (by rw [← HN.out, ← HM.out, e]))
    have d1 : ((n : Int) != (m : Int)) = true := bne_iff_ne.2 (by omega)
    generalize decide (a = b) = r at *
    clear hnm
    go_enter Try.func24, Try.ntmps24
    go_wp2
    go_ret
    exact ⟨by rw [HF.out]; rfl, 0, rfl⟩

end Go.Proofs.Ytoocifoglhhnmaa
