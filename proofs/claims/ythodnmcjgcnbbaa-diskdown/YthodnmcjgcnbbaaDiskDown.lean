/- Every call of the law that without power nothing changes, till the crash is over, answers true: any number of sectors, operations and further operations. No conditions. -/
import Derived.Test.YthodnmcjgcnbbaaRows
import Derived.Test.YthodnmcjgcnbbaaDiskApp
import Derived.WalkKit
import Derived.ProofKit
import Derived.OpenShut
import Derived.ShutString
import Derived.ChangeOld
import Derived.Below
import Derived.SizedLaws
namespace Go.Proofs.Ythodnmcjgcnbbaa.diskDown
open Go.ChangeShapes Go.WideShapes Go.ChangeAt Go.RowKit
open Go.ChangeMaps (open_string shut_string)
set_option linter.unusedVariables false

theorem own : ownKnob Try.prog.godebug = none := by kernel_rfl
theorem laidOut : laidOutB Try.prog = true := by kernel_rfl

theorem own_keep {F : Nat → Prop} {W W' : World} {base : Nat} {e : TypeId} {size n : Nat} {v : Value} {xs : List Value} (h : W.ownsRow base e size v n xs) (hk : Kept F W W') (hF : ∀ i, base ≤ i → ¬ F i) : W'.ownsRow base e size v n xs := by
  obtain ⟨h1, h2⟩ := h
  refine ⟨h1, ?_⟩
  rcases h2 with h2 | ⟨g, cap, cur, hv, hg, hh, r⟩
  · exact .inl h2
  · exact .inr ⟨g, cap, cur, hv, hg, (hk.block g (Array.getElem?_eq_some_iff.1 hh).1 (hF g hg)).trans hh, r⟩

theorem own_ne {w : World} {base : Nat} {e t : TypeId} {size n g : Nat} {v : Value} {xs : List Value} {cs : Array Value} {fr : Nat × Nat} (h : w.ownsRow base e size v n xs) (hg : w.heap[g]? = some (.cells cs t fr)) (hne : e ≠ t) : some g ≠ v.ownBlock := by
  rcases h.2 with ⟨rfl, _⟩ | ⟨g', cap, cur, rfl, _, hh, _⟩
  · simp [Value.ownBlock]
  · intro he
    have e1 : g = g' := by simpa [Value.ownBlock] using he
    subst e1
    exact blocks_ne hh hg hne rfl

/-- the sectors that were read: a row of slices, each of a block of its own -/
def WasAt (W : World) (base : Nat) (v : Value) (k : Nat) (f : Nat → Dk.Bs) : Prop :=
  ∃ vs : List Value, W.ownsRow base 32 1 v k vs ∧ ∀ i, i < k → ∃ b, vs[i]? = some (.slice (some ⟨b, 0, none⟩) 32 32) ∧ base ≤ b ∧ W.heap[b]? = some (.cells ((f i).map bv).toArray 5 (0, 0))

theorem WasAt.keep {F : Nat → Prop} {W W' : World} {base : Nat} {v : Value} {k : Nat} {f : Nat → Dk.Bs} (h : WasAt W base v k f) (hk : Kept F W W') (hF : ∀ i, base ≤ i → ¬ F i) : WasAt W' base v k f := by
  obtain ⟨vs, h1, h2⟩ := h
  refine ⟨vs, own_keep h1 hk hF, fun i hi => ?_⟩
  obtain ⟨b, e, hb, hh⟩ := h2 i hi
  exact ⟨b, e, hb, (hk.block b (Array.getElem?_eq_some_iff.1 hh).1 (hF b hb)).trans hh⟩

theorem WasAt.next {W W' : World} {base : Nat} {v v' : Value} {k : Nat} {f : Nat → Dk.Bs} (h : WasAt W base v k f) (b : Nat) (hb : base ≤ b) (hh : W.heap[b]? = some (.cells ((f k).map bv).toArray 5 (0, 0)))
    (xs : List Value) (hx : W.ownsRow base 32 1 v k xs → W'.ownsRow base 32 1 v' (k + 1) (xs ++ [.slice (some ⟨b, 0, none⟩) 32 32])) (hxs : ∀ vs, W.ownsRow base 32 1 v k vs → vs = xs) (hg : W.grownBy W' v.ownBlock) : WasAt W' base v' (k + 1) f := by
  obtain ⟨vs, h1, h2⟩ := h
  obtain rfl := hxs vs h1
  have hl : vs.length = k := by simpa using h1.1
  refine ⟨_, hx h1, fun i hi => ?_⟩
  have far : ∀ (c : Nat) (cs : Array Value), W.heap[c]? = some (.cells cs 5 (0, 0)) → W'.heap[c]? = some (.cells cs 5 (0, 0)) := fun c cs hc => (hg.block c (Array.getElem?_eq_some_iff.1 hc).1 (own_ne h1 hc (by decide))).trans hc
  by_cases hik : i < k
  · obtain ⟨b', e, hb', hh'⟩ := h2 i hik
    exact ⟨b', by rw [List.getElem?_append_left (by omega)]; exact e, hb', far _ _ hh'⟩
  · obtain rfl : i = k := by omega
    exact ⟨b, by rw [List.getElem?_append_right (by omega), hl, Nat.sub_self]; rfl, hb, far _ _ hh⟩

theorem WasAt.at_ {W : World} {base : Nat} {v : Value} {k i : Nat} {f : Nat → Dk.Bs} (h : WasAt W base v k f) (hi : i < k) (F : Nat → Prop) (hF : ∀ j, base ≤ j → ¬ F j) :
    ∃ g c b, v = .slice (some ⟨g, 0, none⟩) k c ∧ W.cell? ⟨g, i, none⟩ = some (.slice (some ⟨b, 0, none⟩) 32 32) ∧ BytesIn F W (some ⟨b, 0, none⟩) (f i) := by
  obtain ⟨vs, h1, h2⟩ := h
  obtain ⟨b, e, hb, hh⟩ := h2 i hi
  rcases h1.2 with ⟨_, h0⟩ | ⟨g, cap, cur, rfl, _⟩
  · omega
  · refine ⟨g, cap, b, rfl, ?_, CellsIn.of_block hh (hF b hb)⟩
    have := h1.cells (g := g) rfl i _ e
    rw [Addr.add_mid, Nat.zero_add] at this
    exact this

theorem row_info : (Try.prog.info? 32).map (fun i => (i.zero, i.size, i.bytes)) = some (some (.slice none 0 0), 1, 24) := by kernel_rfl

/-- append(was, s) -/
theorem was_app (W : World) (base : Nat) (v : Value) (k : Nat) (f : Nat → Dk.Bs) (h : WasAt W base v k f) (hbase : base ≤ W.heap.size) (hk : k ≤ 64) (b : Nat) (hb : base ≤ b) (hh : W.heap[b]? = some (.cells ((f k).map bv).toArray 5 (0, 0))) :
    ∃ v' w', (Builtin.append_ #[47, 47] 47 #[v, .slice (some ⟨W.heap.size, 0, none⟩) 1 1]).run Try.prog (W.alloc (.cells #[.slice (some ⟨b, 0, none⟩) 32 32] 32)) = .ok v' w' ∧ (WasAt w' base v' (k + 1) f ∧ Kept (Mine base) W w') := by
  obtain ⟨i0, hi0, hz0, hz1, hz2⟩ := info_parts3 row_info
  have h' := h.keep (F := No) ((Kept.refl No W).alloc (.cells #[.slice (some ⟨b, 0, none⟩) 32 32] 32)) (fun _ _ => id)
  obtain ⟨vs, hown, hvs⟩ := h'
  obtain ⟨v', w', h1, h2, h3, _⟩ := run_append_own (P := Try.prog) (W.alloc (.cells #[.slice (some ⟨b, 0, none⟩) 32 32] 32)) base 47 47 32 i0 _ 1 24 Try.underlying47 hi0 hz0 hz1 hz2 rfl (by omega) v k vs hown ⟨W.heap.size, 0, none⟩ 1 1 [.slice (some ⟨b, 0, none⟩) 32 32] rfl
    (World.news_of_block (cs := #[.slice (some ⟨b, 0, none⟩) 32 32]) (heap_alloc_new W _)) (by intro u hu; simp at hu; subst hu; rfl) (by unfold maxLen; omega) (by omega) (by simp; omega)
  refine ⟨v', w', h1, ?_, ?_⟩
  · refine WasAt.next (W := W.alloc (.cells #[.slice (some ⟨b, 0, none⟩) 32 32] 32)) ⟨vs, hown, hvs⟩ b hb ?_ vs (fun _ => h2) (fun xs hx => ?_) h3
    · rw [Below.heap_alloc _ _ _ (Array.getElem?_eq_some_iff.1 hh).1]; exact hh
    · rcases hx.2 with ⟨hv, hk0⟩ | ⟨g, cap, cur, hv, _, hg, _, _, _, ht⟩
      · have e1 : xs = [] := List.eq_nil_of_length_eq_zero (by have := hx.1; omega)
        have e2 : vs = [] := List.eq_nil_of_length_eq_zero (by have := hown.1; omega)
        rw [e1, e2]
      · rcases hown.2 with ⟨hv', hk0⟩ | ⟨g', cap', cur', hv', _, hg', _, _, _, ht'⟩
        · rw [hv'] at hv; cases hv
        · rw [hv'] at hv
          injection hv with hv1
          injection hv1 with hv1
          injection hv1 with hv1
          subst hv1
          rw [hg'] at hg
          injection hg with hg
          injection hg with hg
          subst hg
          rw [← ht, ← ht']
  · exact ((Kept.refl (Mine base) W).alloc _).grown h3 (fun i hi => .inl ((hown.lt i hi).1))

theorem down_start (n : Nat) (d : Dk.D) (h0 : 2 ≤ n) : Dk.wcode n (Dk.fuseTo d 0 0) 0 [1] = 7 ∧ (Dk.wstate n (Dk.fuseTo d 0 0) 0 [1]).up = false ∧ (Dk.wstate n (Dk.fuseTo d 0 0) 0 [1]).writes = d.writes := by
  have hh : ¬ Dk.has n 0 = false := by simp [Dk.has]; omega
  have hc : Dk.wcode n (Dk.fuseTo d 0 0) 0 [1] = 7 := by
    unfold Dk.wcode
    rw [if_neg hh, if_neg (by simp), if_pos (show (Dk.fuseTo d 0 0).fuse = 0 from rfl)]
    split <;> rfl
  refine ⟨hc, ?_⟩
  unfold Dk.wstate
  rw [if_neg hh, if_neg (by simp), if_pos (show (Dk.fuseTo d 0 0).fuse = 0 from rfl)]
  split
  · rename_i e; exact ⟨e, rfl⟩
  · exact ⟨rfl, rfl⟩

theorem down_step (n : Nat) (d : Dk.D) (x : Ox) (hu : d.up = false) (h2 : x.o ≠ 2) (h3 : x.o ≠ 3) : (dstate n d x).b = d.b ∧ (dstate n d x).up = false ∧ (dstate n d x).writes = d.writes := by
  unfold dstate
  by_cases e0 : x.o = 0
  · rw [if_pos e0]
    unfold Dk.wstate
    split
    · exact ⟨rfl, hu, rfl⟩
    split
    · exact ⟨rfl, hu, rfl⟩
    · exact ⟨rfl, hu, rfl⟩
  rw [if_neg e0]
  by_cases e1 : x.o = 1
  · rw [if_pos e1]; exact ⟨rfl, hu, rfl⟩
  rw [if_neg e1, if_neg h2, if_neg h3]
  exact ⟨rfl, hu, rfl⟩

theorem down_code (n : Nat) (d : Dk.D) (x : Ox) (hu : d.up = false) (h0 : x.o = 0) (ha : 0 ≤ x.a ∧ x.a < n) (hm : x.l.length ≤ 32) : dcode n d x = 7 := by
  unfold dcode Dk.wcode
  rw [if_pos h0, if_neg (by simp [Dk.has]; omega), if_neg (by omega), if_pos hu]

theorem up_code (n : Nat) (d : Dk.D) (h0 : 2 ≤ n) : Dk.wcode n (Dk.crash d) 0 [] = 0 := by
  unfold Dk.wcode
  rw [if_neg (by simp [Dk.has]; omega), if_neg (by decide), if_neg (by simp [Dk.crash]), if_neg (by simp [Dk.crash])]

theorem run_read_blk {w W : World} {g s n : Nat} {d : Dk.D} (h : Run w g s n W d) (j : Nat) (hj : j < n) :
    Calls Try.prog 15 #[.pointer (some ⟨g, 0, none⟩), .int .i64 j] W fun e w' => e = .returned (.tuple #[.slice (some ⟨W.heap.size, 0, none⟩) 32 32, .int .i64 0]) ∧ w'.heap[W.heap.size]? = some (.cells ((Dk.sec d.b j).map bv).toArray 5 (0, 0)) ∧ Run w g s n w' d ∧ Below W.heap.size W w' :=
  (read_ok g s n d j W h.at_ hj).mono fun _ w' ⟨he, hrow, hb⟩ => ⟨he, hrow, h.below hb, hb⟩

theorem run_mine {w W W' : World} {g s n base : Nat} {d : Dk.D} (h : Run w g s n W d) (hk : Kept (Mine base) W W') (hg : g < base) (hs : s < base) (hw : w.heap.size ≤ base) : Run w g s n W' d :=
  ⟨h.at_.keep hk (by unfold Mine; omega) (by unfold Mine; omega), hk.below h.bel h.bel.size (fun i hi e => by unfold Mine at e; omega), h.hg, h.hs⟩

set_option maxHeartbeats 4000000 in
set_option maxRecDepth 100000 in
theorem walkIn (n : Nat) (a1 : Option Addr) (len1 cap1 : Nat) (l1 : List Ox) (a2 : Option Addr) (len2 cap2 : Nat) (l2 : List Ox) (w : World) (h0 : 2 ≤ n) (h1 : n ≤ 64) (hl1 : l1.length = len1) (hcm1 : cap1 ≤ maxLen) (hlc1 : len1 ≤ cap1) (hv1 : OpsIn w.heap.size w a1 l1)
    (hl2 : l2.length = len2) (hcm2 : cap2 ≤ maxLen) (hlc2 : len2 ≤ cap2) (hv2 : OpsIn w.heap.size w a2 l2) :
    Calls Try.prog 5 #[.int .i64 n, .slice a1 len1 cap1, .slice a2 len2 cap2] w fun e w' => e = .returned (.bool true) ∧ Below w.heap.size w w' := by
  have HV1 := Lib.hid hv1
  have HL1 := Lib.hid hl1
  have HV2 := Lib.hid hv2
  have HL2 := Lib.hid hl2
  have HLA1 := Lib.hid (fun W => large_any w.heap.size a1 len1 cap1 l1 W hl1 (by omega))
  have HLA2 := Lib.hid (fun W => large_any w.heap.size a2 len2 cap2 l2 W hl2 (by omega))
  have dn : decide ((64 : Int) < (n : Int)) = false := decide_eq_false (by omega)
  have hcm1' : cap1 ≤ 9223372036854775807 := hcm1
  have hcm2' : cap2 ≤ 9223372036854775807 := hcm2
  clear hv1 hl1 hv2 hl2 hcm1 hcm2
  go_enter Try.func5, Try.ntmps5
  go_wp2_with fail
  refine (awake_any w).mono ?_
  rintro e w1 ⟨rfl, hb1⟩
  have HB1 := Lib.hid hb1
  clear hb1
  go_wp2_with fail
  refine (HLA1.out w1 (HV1.out.keep (Kept.of_below HB1.out))).mono ?_
  rintro e w' ⟨b, rfl, rfl, h60⟩
  clear HLA1
  cases b with
  | true =>
    clear h60
    go_wp2
    go_ret
    exact ⟨rfl, HB1.out⟩
  | false =>
    have h60a := h60 rfl
    clear h60
    go_wp2_with fail
    refine (HLA2.out w1 (HV2.out.keep (Kept.of_below HB1.out))).mono ?_
    rintro e w' ⟨b, rfl, rfl, h60⟩
    clear HLA2
    cases b with
    | true =>
      clear h60
      go_wp2
      go_ret
      exact ⟨rfl, HB1.out⟩
    | false =>
      have h60b := h60 rfl
      clear h60
      go_wp2_with fail
      refine (run_new n w w1 HB1.out h0 (by omega)).mono ?_
      rintro e w2 ⟨g, s, rfl, hr2, _⟩
      have HR2 := Lib.hid hr2
      clear hr2 HB1
      go_wp2
      go_loopg [44] len1 (fun gk s44 W => ∃ (k : Nat) (d : Dk.D), k + gk = len1 ∧ s44 = .int .i64 k ∧ d.writes ≤ k ∧ Hid (Run w g s n W d))
      case atStart => exact ⟨0, Dk.fresh n, by omega, rfl, by simp [Dk.fresh], HR2.out⟩
      case round =>
        clear HR2
        obtain ⟨k, d, hkg, rfl, hwk, HR⟩ := hrel
        by_cases hlt : k < len1
        · obtain ⟨gk, rfl⟩ : ∃ i, gk = i + 1 := ⟨gk - 1, by omega⟩
          obtain ⟨x, hx⟩ := some_at l1 k (by rw [HL1.out]; exact hlt)
          have HOP := Lib.hid (HV1.out.keep (Kept.of_below HR.out.bel))
          obtain ⟨ad, rfl, _, x0, x1, x2, x3⟩ := OpsIn.at_ HOP.out hx
          have HOK := Lib.hid ((HOP.out.2 x (List.mem_of_getElem? hx)).keep ((Kept.refl (Mine w.heap.size) wr).alloc (.cells #[.int .i64 x.o, .int .i64 x.a, .int .i64 x.c, .slice x.A x.m x.cap] 34)))
          have HRA := Lib.hid (HR.out.alloc (.cells #[.int .i64 x.o, .int .i64 x.a, .int .i64 x.c, .slice x.A x.m x.cap] 34))
          obtain ⟨d2, hd2⟩ : ∃ d2, dstate n d x = d2 := ⟨_, rfl⟩
          have HD2 := Lib.hid hd2
          have hww := dstate_writes n d x
          rw [hd2] at hww
          obtain ⟨hw1, hw2⟩ := hww
          clear hx HOP hd2
          go_wp2_with fail
          refine (run_do HRA.out x (by omega) HOK.out _ d2 rfl HD2.out).mono ?_
          rintro e w3 ⟨rfl, hr3, _⟩
          have HR3 := Lib.hid hr3
          clear hr3
          go_wp2
          go_roundg gk
          case measure => omega
          case rel => exact ⟨k + 1, d2, by omega, by first | rfl | go_num, by omega, HR3.out⟩
        · have hk : k = len1 := by omega
          subst hk
          obtain ⟨hc7, hdu, hdw⟩ := down_start n d h0
          obtain ⟨d2, hd2⟩ : ∃ d2, Dk.wstate n (Dk.fuseTo d 0 0) 0 [1] = d2 := ⟨_, rfl⟩
          rw [hd2] at hdu hdw
          have HC7 := Lib.hid hc7
          have HD2 := Lib.hid hd2
          have HDU := Lib.hid hdu
          have hwd : d2.writes ≤ 100 := by omega
          clear hc7 hd2 hdu hdw
          go_wp2_with fail
          refine (run_fuse HR.out 0 0 (by omega) (by omega) _ rfl).mono ?_
          rintro e w3 ⟨rfl, hr3, _⟩
          have HR3 := Lib.hid hr3
          clear hr3 HR
          go_wp2_with fail
          refine (run_write (HR3.out.alloc (.cells #[.int .u8 1] 5)) 0 _ 1 1 [1] (by simp only [Dk.fuseTo]; omega) rfl (by decide) (bytes_new HR3.out [1] (0, 0)) 7 d2 HC7.out HD2.out).mono ?_
          rintro e w4 ⟨rfl, hr4, _⟩
          have HR4 := Lib.hid hr4
          clear hr4 HR3 HC7 HD2
          have hgb := HR4.out.at_.ltg
          have hsb := HR4.out.at_.lts
          have hwb := HR4.out.bel.size
          have HW0 : Hid (WasAt w4 w4.heap.size (.slice none 0 0) 0 (fun i => Dk.sec d2.b i)) := ⟨[], World.ownsRow_nil _ _ _ _, fun i hi => by omega⟩
          have HBS : Hid (∀ W, Kept (Mine w4.heap.size) w4 W → w4.heap.size ≤ W.heap.size) := fun W h => h.size
          generalize hB : w4.heap.size = base at *
          have HBE := Lib.hid hB
          clear hB
          go_wp2
          go_loopg [12, 13] n (fun gk s12 s13 W => ∃ (i : Nat), i + gk = n ∧ s13 = .int .i64 i ∧ Hid (WasAt W base s12 i (fun i => Dk.sec d2.b i)) ∧ Hid (Run w g s n W d2) ∧ Hid (Kept (Mine base) w4 W))
          case atStart => exact ⟨0, by omega, rfl, HW0.out, HR4.out, Kept.refl _ _⟩
          case round =>
            clear HW0 HR4
            obtain ⟨i, hig, rfl, HWS, HRI, HKI⟩ := hrel
            by_cases hlt2 : i < n
            · obtain ⟨gk, rfl⟩ : ∃ j, gk = j + 1 := ⟨gk - 1, by omega⟩
              go_wp2_with fail
              refine (run_read_blk HRI.out i hlt2).mono ?_
              rintro e w5 ⟨rfl, hrow5, hr5, hb5⟩
              have hbs := HBS.out wr HKI.out
              have HA := Lib.hid (was_app w5 base u12 i _ (HWS.out.keep (F := No) (Kept.of_below hb5) (fun _ _ => id)) (Nat.le_trans hbs hb5.size) (by omega) wr.heap.size hbs hrow5)
              have HR5 := Lib.hid hr5
              have HK5 : Hid (Kept (Mine base) w4 w5) := HKI.out.trans (Kept.of_below hb5)
              clear hrow5 hr5 hb5 HWS HRI HKI
              generalize wr.heap.size = gw at *
              go_wp2_with (at_builtin; refine wpList_append_any rfl (.tmp 68) (.tmp 70) 47 47 rfl _ _ rfl rfl _ HA.out ?_; intro v6 w6 hf6; have HW6 := Lib.hid hf6.1; have HK6 := Lib.hid hf6.2; clear hf6)
              go_roundg gk
              case measure => omega
              case rel => exact ⟨i + 1, by omega, by first | rfl | go_num, HW6.out, run_mine HR5.out HK6.out hgb hsb hwb, HK5.out.trans HK6.out⟩
            · have hi : i = n := by omega
              subst hi
              go_wp2_with fail
              refine (writes_any g s i d2 _ HRI.out.at_).mono ?_
              rintro e w' ⟨rfl, rfl⟩
              go_wp2
              go_loopg [76] len2 (fun gk s76 W => ∃ (k3 : Nat) (d3 : Dk.D), k3 + gk = len2 ∧ s76 = .int .i64 k3 ∧ Hid (d3.b = d2.b) ∧ Hid (d3.up = false) ∧ Hid (d3.writes = d2.writes) ∧ Hid (WasAt W base u12 i (fun i => Dk.sec d2.b i)) ∧ Hid (Run w g s i W d3))
              case atStart => exact ⟨0, d2, by omega, rfl, rfl, HDU.out, rfl, HWS.out, HRI.out⟩
              case round =>
                clear HWS HRI HKI HBS HBE
                obtain ⟨k3, d3, hkg3, rfl, HE1, HE2, HE3, HWS, HR⟩ := hrel
                by_cases hlt3 : k3 < len2
                · obtain ⟨gk, rfl⟩ : ∃ j, gk = j + 1 := ⟨gk - 1, by omega⟩
                  obtain ⟨x, hx⟩ := some_at l2 k3 (by rw [HL2.out]; exact hlt3)
                  have HOP := Lib.hid (HV2.out.keep (Kept.of_below HR.out.bel))
                  obtain ⟨ad2, rfl, _, x0, x1, x2, x3⟩ := OpsIn.at_ HOP.out hx
                  have HOK := Lib.hid ((HOP.out.2 x (List.mem_of_getElem? hx)).keep ((Kept.refl (Mine w.heap.size) wr).alloc (.cells #[.int .i64 x.o, .int .i64 x.a, .int .i64 x.c, .slice x.A x.m x.cap] 34)))
                  have HRA := Lib.hid (HR.out.alloc (.cells #[.int .i64 x.o, .int .i64 x.a, .int .i64 x.c, .slice x.A x.m x.cap] 34))
                  have HWA := Lib.hid (HWS.out.keep (F := No) ((Kept.refl No wr).alloc (.cells #[.int .i64 x.o, .int .i64 x.a, .int .i64 x.c, .slice x.A x.m x.cap] 34)) (fun _ _ => id))
                  have HXB := Lib.hid (xcells_new wr x HR.out.at_.ltg HR.out.at_.lts)
                  have hm0 := HOK.out.m0
                  have hm1 := HOK.out.m1
                  have HLEN := Lib.hid HOK.out.len
                  clear hx HOP
                  by_cases o2 : x.o = 2
                  · have b2 : (x.o == 2) = true := beq_iff_eq.2 o2
                    clear o2
                    go_wp2
                    go_roundg gk
                    case measure => omega
                    case rel => exact ⟨k3 + 1, d3, by omega, by first | rfl | go_num, HE1.out, HE2.out, HE3.out, HWA.out, HRA.out⟩
                  have b2 : (x.o == 2) = false := beq_eq_false_iff_ne.2 o2
                  by_cases o3 : x.o = 3
                  · have b3 : (x.o == 3) = true := beq_iff_eq.2 o3
                    clear o2 o3
                    go_wp2
                    go_roundg gk
                    case measure => omega
                    case rel => exact ⟨k3 + 1, d3, by omega, by first | rfl | go_num, HE1.out, HE2.out, HE3.out, HWA.out, HRA.out⟩
                  have b3 : (x.o == 3) = false := beq_eq_false_iff_ne.2 o3
                  obtain ⟨f1, f2, f3⟩ := down_step i d3 x HE2.out o2 o3
                  obtain ⟨q, hq⟩ : ∃ q, dcode i d3 x = q := ⟨_, rfl⟩
                  obtain ⟨d4, hd4⟩ : ∃ d4, dstate i d3 x = d4 := ⟨_, rfl⟩
                  rw [hd4] at f1 f2 f3
                  have HQ := Lib.hid hq
                  have HD4 := Lib.hid hd4
                  have HF1 : Hid (d4.b = d2.b) := f1.trans HE1.out
                  have HF2 := Lib.hid f2
                  have HF3 : Hid (d4.writes = d2.writes) := f3.trans HE3.out
                  have HWL : Hid (d3.writes ≤ 1000000) := by unfold Hid; rw [HE3.out]; omega
                  clear hd4 f1 f2 f3
                  by_cases o0 : x.o = 0
                  · have b0 : (x.o == 0) = true := beq_iff_eq.2 o0
                    by_cases ha : 0 ≤ x.a ∧ x.a < i ∧ x.m ≤ 32
                    · have bq : (q != 7) = false := by rw [← hq, down_code i d3 x HE2.out o0 ⟨ha.1, ha.2.1⟩ (by rw [HLEN.out]; exact ha.2.2)]; rfl
                      clear o0 o2 o3 hq ha
                      go_wp2_with fail
                      refine (run_do HRA.out x HWL.out HOK.out q d4 HQ.out HD4.out).mono ?_
                      rintro e w6 ⟨rfl, hr6, hk6⟩
                      have HR6 := Lib.hid hr6
                      have HW6 := Lib.hid (HWA.out.keep hk6 (fun i hi e => by rcases e with e | e <;> omega))
                      obtain ⟨z0, z1, z2, z3⟩ := xcells (CellsIn.keep HXB.out hk6)
                      clear hr6 hk6
                      go_wp2
                      go_roundg gk
                      case measure => omega
                      case rel => exact ⟨k3 + 1, d4, by omega, by first | rfl | go_num, HF1.out, HF2.out, HF3.out, HW6.out, HR6.out⟩
                    · clear hq
                      by_cases ha0 : 0 ≤ x.a
                      · have c0 : decide (0 ≤ x.a) = true := decide_eq_true ha0
                        by_cases ha1 : x.a < i
                        · have c1 : decide (x.a < (i : Int)) = true := decide_eq_true ha1
                          have c2 : decide ((x.m : Int) ≤ 32) = false := decide_eq_false (fun e => ha ⟨ha0, ha1, by omega⟩)
                          clear o0 o2 o3 ha ha0 ha1
                          cases bq : (q != 7) with
                          | true =>
                            go_wp2_with fail
                            refine (run_do HRA.out x HWL.out HOK.out q d4 HQ.out HD4.out).mono ?_
                            rintro e w6 ⟨rfl, hr6, hk6⟩
                            have HR6 := Lib.hid hr6
                            have HW6 := Lib.hid (HWA.out.keep hk6 (fun i hi e => by rcases e with e | e <;> omega))
                            obtain ⟨z0, z1, z2, z3⟩ := xcells (CellsIn.keep HXB.out hk6)
                            clear hr6 hk6
                            go_wp2
                            go_roundg gk
                            case measure => omega
                            case rel => exact ⟨k3 + 1, d4, by omega, by first | rfl | go_num, HF1.out, HF2.out, HF3.out, HW6.out, HR6.out⟩
                          | false =>
                            go_wp2_with fail
                            refine (run_do HRA.out x HWL.out HOK.out q d4 HQ.out HD4.out).mono ?_
                            rintro e w6 ⟨rfl, hr6, hk6⟩
                            have HR6 := Lib.hid hr6
                            have HW6 := Lib.hid (HWA.out.keep hk6 (fun i hi e => by rcases e with e | e <;> omega))
                            obtain ⟨z0, z1, z2, z3⟩ := xcells (CellsIn.keep HXB.out hk6)
                            clear hr6 hk6
                            go_wp2
                            go_roundg gk
                            case measure => omega
                            case rel => exact ⟨k3 + 1, d4, by omega, by first | rfl | go_num, HF1.out, HF2.out, HF3.out, HW6.out, HR6.out⟩
                        · have c1 : decide (x.a < (i : Int)) = false := decide_eq_false ha1
                          clear o0 o2 o3 ha ha0 ha1
                          cases bq : (q != 7) with
                          | true =>
                            go_wp2_with fail
                            refine (run_do HRA.out x HWL.out HOK.out q d4 HQ.out HD4.out).mono ?_
                            rintro e w6 ⟨rfl, hr6, hk6⟩
                            have HR6 := Lib.hid hr6
                            have HW6 := Lib.hid (HWA.out.keep hk6 (fun i hi e => by rcases e with e | e <;> omega))
                            obtain ⟨z0, z1, z2, z3⟩ := xcells (CellsIn.keep HXB.out hk6)
                            clear hr6 hk6
                            go_wp2
                            go_roundg gk
                            case measure => omega
                            case rel => exact ⟨k3 + 1, d4, by omega, by first | rfl | go_num, HF1.out, HF2.out, HF3.out, HW6.out, HR6.out⟩
                          | false =>
                            go_wp2_with fail
                            refine (run_do HRA.out x HWL.out HOK.out q d4 HQ.out HD4.out).mono ?_
                            rintro e w6 ⟨rfl, hr6, hk6⟩
                            have HR6 := Lib.hid hr6
                            have HW6 := Lib.hid (HWA.out.keep hk6 (fun i hi e => by rcases e with e | e <;> omega))
                            obtain ⟨z0, z1, z2, z3⟩ := xcells (CellsIn.keep HXB.out hk6)
                            clear hr6 hk6
                            go_wp2
                            go_roundg gk
                            case measure => omega
                            case rel => exact ⟨k3 + 1, d4, by omega, by first | rfl | go_num, HF1.out, HF2.out, HF3.out, HW6.out, HR6.out⟩
                      · have c0 : decide (0 ≤ x.a) = false := decide_eq_false ha0
                        clear o0 o2 o3 ha ha0
                        cases bq : (q != 7) with
                        | true =>
                          go_wp2_with fail
                          refine (run_do HRA.out x HWL.out HOK.out q d4 HQ.out HD4.out).mono ?_
                          rintro e w6 ⟨rfl, hr6, hk6⟩
                          have HR6 := Lib.hid hr6
                          have HW6 := Lib.hid (HWA.out.keep hk6 (fun i hi e => by rcases e with e | e <;> omega))
                          obtain ⟨z0, z1, z2, z3⟩ := xcells (CellsIn.keep HXB.out hk6)
                          clear hr6 hk6
                          go_wp2
                          go_roundg gk
                          case measure => omega
                          case rel => exact ⟨k3 + 1, d4, by omega, by first | rfl | go_num, HF1.out, HF2.out, HF3.out, HW6.out, HR6.out⟩
                        | false =>
                          go_wp2_with fail
                          refine (run_do HRA.out x HWL.out HOK.out q d4 HQ.out HD4.out).mono ?_
                          rintro e w6 ⟨rfl, hr6, hk6⟩
                          have HR6 := Lib.hid hr6
                          have HW6 := Lib.hid (HWA.out.keep hk6 (fun i hi e => by rcases e with e | e <;> omega))
                          obtain ⟨z0, z1, z2, z3⟩ := xcells (CellsIn.keep HXB.out hk6)
                          clear hr6 hk6
                          go_wp2
                          go_roundg gk
                          case measure => omega
                          case rel => exact ⟨k3 + 1, d4, by omega, by first | rfl | go_num, HF1.out, HF2.out, HF3.out, HW6.out, HR6.out⟩
                  · have b0 : (x.o == 0) = false := beq_eq_false_iff_ne.2 o0
                    clear o0 o2 o3 hq
                    go_wp2_with fail
                    refine (run_do HRA.out x HWL.out HOK.out q d4 HQ.out HD4.out).mono ?_
                    rintro e w6 ⟨rfl, hr6, hk6⟩
                    have HR6 := Lib.hid hr6
                    have HW6 := Lib.hid (HWA.out.keep hk6 (fun i hi e => by rcases e with e | e <;> omega))
                    obtain ⟨z0, z1, z2, z3⟩ := xcells (CellsIn.keep HXB.out hk6)
                    clear hr6 hk6
                    go_wp2
                    go_roundg gk
                    case measure => omega
                    case rel => exact ⟨k3 + 1, d4, by omega, by first | rfl | go_num, HF1.out, HF2.out, HF3.out, HW6.out, HR6.out⟩
                · have hk3 : k3 = len2 := by omega
                  subst hk3
                  go_wp2
                  go_loopg [20] i (fun gk s20 W => ∃ (k4 : Nat), k4 + gk = i ∧ s20 = .int .i64 k4 ∧ Hid (WasAt W base u12 i (fun i => Dk.sec d2.b i)) ∧ Hid (Run w g s i W d3))
                  case atStart => exact ⟨0, by omega, rfl, HWS.out, HR.out⟩
                  case round =>
                    clear HWS HR
                    obtain ⟨k4, hkg4, rfl, HWS, HR⟩ := hrel
                    by_cases hlt4 : k4 < i
                    · obtain ⟨gk, rfl⟩ : ∃ j, gk = j + 1 := ⟨gk - 1, by omega⟩
                      go_wp2_with fail
                      refine (run_read HR.out k4 hlt4).mono ?_
                      rintro e w5 ⟨rfl, hby5, hr5, hb5⟩
                      have HW5 := Lib.hid (HWS.out.keep (F := No) (Kept.of_below hb5) (fun _ _ => id))
                      have HR5 := Lib.hid hr5
                      obtain ⟨gv, cv, b, rfl, hcv, hwb5⟩ := HW5.out.at_ hlt4 (Two g s) (fun j hj e => by rcases e with e | e <;> omega)
                      rw [HE1.out] at hby5
                      have HLS : Hid ((Dk.sec d2.b k4).length = 32) := by
                        have := Dk.sec_len hr5.at_.good.len hlt4
                        rw [HE1.out] at this
                        exact this
                      have HS5 := Lib.hid (bsame_true (Two g s) _ _ 32 32 (Dk.sec d2.b k4) 32 w5 HLS.out (by omega) hby5 hwb5)
                      have i1 : (0 : Int) ≤ (k4 : Int) := by omega
                      have i2 : (k4 : Int) < (i : Int) := by omega
                      clear hby5 hr5 hb5 hwb5 HWS HR
                      generalize wr.heap.size = gr at *
                      go_wp2_with fail
                      refine HS5.out.mono ?_
                      rintro e w6 ⟨rfl, q6, rfl⟩
                      have HR6 := Lib.hid (HR5.out.drewN q6)
                      have HW6 := Lib.hid (HW5.out.keep ((Kept.refl No w5).drewN q6) (fun _ _ => id))
                      clear HS5 HR5 HW5
                      generalize w5.drewN q6 = w6 at *
                      go_wp2
                      go_roundg gk
                      case measure => omega
                      case rel => exact ⟨k4 + 1, by omega, by first | rfl | go_num, HW6.out, HR6.out⟩
                    · have hk4 : k4 = i := by omega
                      subst hk4
                      go_wp2_with fail
                      refine (run_crash HR.out _ rfl).mono ?_
                      rintro e w5 ⟨rfl, hr5, _⟩
                      have HR5 := Lib.hid hr5
                      have hw5 := writes_any g s k4 (Dk.crash d3) w5 hr5.at_
                      have hwe : (Dk.crash d3).writes = d2.writes := HE3.out
                      rw [hwe] at hw5
                      have HWR := Lib.hid hw5
                      have HWL : Hid ((Dk.crash d3).writes ≤ 1000000) := by unfold Hid; rw [hwe]; omega
                      have HUC := Lib.hid (up_code k4 d3 h0)
                      clear hr5 hw5 hwe HR HWS
                      go_wp2_with fail
                      refine HWR.out.mono ?_
                      rintro e w' ⟨rfl, rfl⟩
                      go_wp2_with fail
                      refine (run_write HR5.out 0 none 0 0 [] HWL.out rfl (by decide) (CellsIn.nil _ _ _) 0 _ HUC.out rfl).mono ?_
                      rintro e w6 ⟨rfl, hr6, _⟩
                      have HR6 := Lib.hid hr6
                      clear hr6
                      go_wp2
                      go_ret
                      exact ⟨rfl, HR6.out.bel⟩

set_option maxHeartbeats 1000000 in
set_option maxRecDepth 100000 in
theorem walkOut (a0 : Int) (a1 : Option Addr) (len1 cap1 : Nat) (l1 : List Ox) (a2 : Option Addr) (len2 cap2 : Nat) (l2 : List Ox) (w : World) (h : a0 < 2 ∨ 64 < a0) (hl1 : l1.length = len1) (hcm1 : cap1 ≤ maxLen) (hlc1 : len1 ≤ cap1) (hv1 : OpsIn w.heap.size w a1 l1)
    (hl2 : l2.length = len2) (hcm2 : cap2 ≤ maxLen) (hlc2 : len2 ≤ cap2) (hv2 : OpsIn w.heap.size w a2 l2) :
    Calls Try.prog 5 #[.int .i64 a0, .slice a1 len1 cap1, .slice a2 len2 cap2] w fun e w' => e = .returned (.bool true) ∧ Below w.heap.size w w' := by
  have HV1 := Lib.hid hv1
  have HV2 := Lib.hid hv2
  have HLA1 := Lib.hid (fun W => large_any w.heap.size a1 len1 cap1 l1 W hl1 (by omega))
  have HLA2 := Lib.hid (fun W => large_any w.heap.size a2 len2 cap2 l2 W hl2 (by omega))
  clear hv1 hl1 hv2 hl2 hcm1 hcm2
  by_cases hn64 : 64 < a0
  · have d1 : decide (64 < a0) = true := decide_eq_true hn64
    clear hn64 h
    go_enter Try.func5, Try.ntmps5
    go_wp2_with fail
    refine (awake_any w).mono ?_
    rintro e w1 ⟨rfl, hb1⟩
    have HB1 := Lib.hid hb1
    clear hb1
    go_wp2_with fail
    refine (HLA1.out w1 (HV1.out.keep (Kept.of_below HB1.out))).mono ?_
    rintro e w' ⟨b, rfl, rfl, _⟩
    cases b with
    | true =>
      go_wp2
      go_ret
      exact ⟨rfl, HB1.out⟩
    | false =>
      go_wp2_with fail
      refine (HLA2.out w1 (HV2.out.keep (Kept.of_below HB1.out))).mono ?_
      rintro e w' ⟨b, rfl, rfl, _⟩
      cases b with
      | true =>
        go_wp2
        go_ret
        exact ⟨rfl, HB1.out⟩
      | false =>
        go_wp2
        go_ret
        exact ⟨rfl, HB1.out⟩
  · have d1 : decide (64 < a0) = false := decide_eq_false hn64
    have HN := Lib.hid (fun W => new_no a0 W (.inl (h.resolve_right hn64)))
    clear hn64 h
    go_enter Try.func5, Try.ntmps5
    go_wp2_with fail
    refine (awake_any w).mono ?_
    rintro e w1 ⟨rfl, hb1⟩
    have HB1 := Lib.hid hb1
    clear hb1
    go_wp2_with fail
    refine (HLA1.out w1 (HV1.out.keep (Kept.of_below HB1.out))).mono ?_
    rintro e w' ⟨b, rfl, rfl, _⟩
    cases b with
    | true =>
      go_wp2
      go_ret
      exact ⟨rfl, HB1.out⟩
    | false =>
      go_wp2_with fail
      refine (HLA2.out w1 (HV2.out.keep (Kept.of_below HB1.out))).mono ?_
      rintro e w' ⟨b, rfl, rfl, _⟩
      cases b with
      | true =>
        go_wp2
        go_ret
        exact ⟨rfl, HB1.out⟩
      | false =>
        go_wp2_with fail
        refine (HN.out _).mono ?_
        rintro e w' ⟨rfl, rfl⟩
        go_wp2
        go_ret
        exact ⟨rfl, HB1.out⟩

theorem walk {w : World} (a0 : Int) (_w0 : (Lit.int .i64 a0).wf = true) (a1 : Option Addr) (len1 cap1 : Nat) (l1 : List Ox) (hl1 : l1.length = len1) (hlc1 : len1 ≤ cap1) (hcm1 : cap1 ≤ maxLen) (hv1 : OpsIn w.heap.size w a1 l1)
    (a2 : Option Addr) (len2 cap2 : Nat) (l2 : List Ox) (hl2 : l2.length = len2) (hlc2 : len2 ≤ cap2) (hcm2 : cap2 ≤ maxLen) (hv2 : OpsIn w.heap.size w a2 l2) :
    Calls Try.prog 5 #[.int .i64 a0, .slice a1 len1 cap1, .slice a2 len2 cap2] w fun e w' => e = .returned (.bool true) ∧ Below w.heap.size w w' := by
  by_cases h : 2 ≤ a0 ∧ a0 ≤ 64
  · obtain ⟨h0, h1⟩ := h
    obtain ⟨n, rfl⟩ := Int.eq_ofNat_of_zero_le (show 0 ≤ a0 by omega)
    exact walkIn n a1 len1 cap1 l1 a2 len2 cap2 l2 w (by omega) (by omega) hl1 hcm1 hlc1 hv1 hl2 hcm2 hlc2 hv2
  · exact walkOut a0 a1 len1 cap1 l1 a2 len2 cap2 l2 w (by omega) hl1 hcm1 hlc1 hv1 hl2 hcm2 hlc2 hv2

set_option maxRecDepth 100000 in
theorem lifted (os : Os) (started : os.Started) (H : Type) (enc : TypeId × Value → H) :
    ReturnsInHanded {} Try.checked os 5 .any (Rows.diskDownSpec.pre6 enc Try.prog Try.f5 Rows.diskDownRow.domain false) (Rows.diskDownSpec.post enc Try.prog Try.f5 false true false false) := by
  refine returnsInHanded_of_change_sized (C := Try.checked) own started (by kernel_rfl) Try.func5
    (ChangeSpec.witness6 (enc := enc) (C := Try.checked) false ⟨#[], #[.int .i64 0, .slice none 0 0, .slice none 0 0], []⟩ 8 (by kernel_rfl) (by kernel_rfl) (by kernel_rfl) (by kernel_rfl)) ?_
  intro W base args ds gs before hval0 hW _ hsz0 _
  have hsz : (DataW.weightsEach Try.prog (Try.f5.params.toList ++ Rows.diskDownSpec.plain.varTypes Try.prog) (ds ++ gs)).all (· ≤ reachBytes) = true := hsz0
  have hval : ∀ (j : Nat) t v, Try.f5.params[j]? = some t → args[j]? = some v → Value.okWide Try.prog W .any base t v := hval0
  have hW' := hW
  obtain ⟨p, q, hA0, hV, rfl, hfz, hnd⟩ := hW
  have hA : DataW.TrodAll enc Try.prog W 0 (fun _ => true) true Try.f5.params.toList args.toList ds p := hA0
  rw [Try.params5] at hA hval hsz
  obtain ⟨v0, vs0, d0, ds0, p0, q0, hargs, rfl, rfl, h0, r0⟩ := trodAll_cons hA
  obtain ⟨v1, vs1, d1, ds1, p1, q1, rfl, rfl, rfl, h1, r1⟩ := trodAll_cons r0
  obtain ⟨v2, vs2, d2, ds2, p2, q2, rfl, rfl, rfl, h2, r2⟩ := trodAll_cons r1
  obtain ⟨rfl, rfl, rfl⟩ := trodAll_nil r2
  obtain rfl : args = #[v0, v1, v2] := by cases args; simp_all
  obtain ⟨rfl, rfl⟩ := trodVars_none hV
  obtain ⟨a0, rfl, rfl, rfl, w0⟩ := open_int Try.underlying3 (hval 0 3 v0 rfl rfl) h0
  obtain ⟨a1, len1, cap1, rfl⟩ := okWide_slice Try.underlying22 (hval 1 22 v1 rfl rfl)
  have k1 := h1
  have lt1 : ∀ x ∈ p1, x.block < W.heap.size := by obtain ⟨m, hm⟩ := k1; exact DataW.trod_lt m _ _ _ hm
  obtain ⟨l1, hl1, hlc1, hcm1, hw1, hv1⟩ := open_ops h1
  have hs1 : ∀ x ∈ l1, x.cap ≤ 140737488355328 := fun x hx => by
    rcases hw1 x hx with h0 | hin
    · omega
    · have := List.all_eq_true.1 hsz _ (DataW.weights_mem_each (j := 1) (t := 22) (d := d1) rfl rfl x.cap hin)
      have h2 : x.cap ≤ reachBytes := by simpa using this
      have h3 := reachBytes_lt
      omega
  obtain ⟨a2, len2, cap2, rfl⟩ := okWide_slice Try.underlying22 (hval 2 22 v2 rfl rfl)
  have k2 := h2
  have lt2 : ∀ x ∈ p2, x.block < W.heap.size := by obtain ⟨m, hm⟩ := k2; exact DataW.trod_lt m _ _ _ hm
  obtain ⟨l2, hl2, hlc2, hcm2, hw2, hv2⟩ := open_ops h2
  have hs2 : ∀ x ∈ l2, x.cap ≤ 140737488355328 := fun x hx => by
    rcases hw2 x hx with h0 | hin
    · omega
    · have := List.all_eq_true.1 hsz _ (DataW.weights_mem_each (j := 2) (t := 22) (d := d2) rfl rfl x.cap hin)
      have h2 : x.cap ≤ reachBytes := by simpa using this
      have h3 := reachBytes_lt
      omega
  clear hA0 hval0
  refine (walk a0 w0 a1 len1 cap1 l1 hl1 hlc1 hcm1 (hv1 hs1) a2 len2 cap2 l2 hl2 hlc2 hcm2 (hv2 hs2)).mono fun e W' ⟨he, bel⟩ => ?_
  subst he
  exact ⟨_, rfl, _, _, _, [], _, [], hW', trodAll_mk1 (shut_bool Try.underlying4 _), (trodAll_cons_mk (shut_int Try.underlying3 w0) (trodAll_cons_mk (Below.trod laidOut (by kernel_rfl) (of_decide_eq_true (by kernel_rfl)) k1 bel lt1) (trodAll_cons_mk (Below.trod laidOut (by kernel_rfl) (of_decide_eq_true (by kernel_rfl)) k2 bel lt2) trodAll_mk0))), rfl, bel.frame _, fun h => by cases h⟩

theorem over : Rows.diskDownRow.holds Try.pinned (OpenSpec.ofChange Rows.diskDownSpec) :=
  OpenClaim.holds_of_wide 5 Try.f5 rfl rfl rfl rfl rfl rfl rfl ⟨rfl, rfl, rfl, rfl, rfl⟩ rfl rfl rfl rfl rfl (by kernel_rfl) Try.func5 (by kernel_rfl)
    (of_decide_eq_true (by kernel_rfl)) (by unfold Func.isWrapper; first | (rw [if_pos (by decide +kernel)]; kernel_rfl) | (rw [if_neg (by decide +kernel)]; exact ⟨rfl, rfl⟩))
    (fun os started H enc _ => lifted os started H enc)

theorem proved : Rows.DiskDownSaid := over
end Go.Proofs.Ythodnmcjgcnbbaa.diskDown
