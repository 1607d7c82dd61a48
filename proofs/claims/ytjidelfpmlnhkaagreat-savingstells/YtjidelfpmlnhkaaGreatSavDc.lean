/- The document's answer: the best two rows, joined. -/
import Derived.Test.YtjidelfpmlnhkaaGreatSavDa
import Derived.Test.YtjidelfpmlnhkaaGreatSavDb
import Derived.Test.YtjidelfpmlnhkaaGreatMaths
import Derived.Test.YtjidelfpmlnhkaaGreatSavQ
import Derived.BigQuiet
import Derived.StillTailTactics
import Derived.WalkMore
namespace Go.Proofs.YtjidelfpmlnhkaaGreat
open Go.RowKit
set_option linter.unusedVariables false
set_option maxRecDepth 100000

theorem ownS_none (W : World) (base : Nat) (h : base ≤ W.heap.size) : OwnS (W.alloc (.cells #[] 29)) base (.slice (some ⟨W.heap.size, 0, none⟩) 0 0) [] :=
  ⟨by simp, .inr ⟨W.heap.size, 0, #[], rfl, h, heap_alloc_new W _, Nat.le_refl _, by decide, by simp, by simp⟩⟩
/-- the first order of a row, as it lies -/
theorem row_first {W : World} {r : Rw} (h : RwOk W r) (hne : r.st ≠ []) : ∃ bd, r.A = some bd ∧ W.cell? bd = some (.int .i64 (Sv.hd r.st)) ∧ 0 < r.m := by
  have hl := List.length_pos_iff.2 hne
  obtain ⟨z, hz⟩ := mlist_at r.st 0 hl
  obtain ⟨bd, e, hc⟩ := h.st 0 z hz
  rw [add_zero'] at hc
  exact ⟨bd, e, by rw [Sv.hd_at hz]; exact hc, by rw [← h.sl]; exact hl⟩

/-- rows, as they are gathered when two are joined -/
structure PK (V : World) (L : List (List Int)) (a b k : Nat) (A : Option Addr) (n c : Nat) (l : List Rw) (W : World) : Prop where
  bel : Below V.heap.size V W
  own : OwnS W V.heap.size (.slice A n c) l
  len : l.length = n
  le : n ≤ k
  ok : ∀ r ∈ l, RwOk W r
  eq : sts l = Sv.pick L a b (Sv.rowAt L a ++ Sv.rowAt L b) k
theorem PK.skip {V W : World} {L : List (List Int)} {a b n c : Nat} {A : Option Addr} {l : List Rw} (h : PK V L a b b A n c l W) (hab : a ≠ b) : PK V L a b (b + 1) A n c l W := by
  refine ⟨h.bel, h.own, h.len, by have := h.le; omega, h.ok, ?_⟩
  rw [Sv.pick, if_neg (Ne.symm hab), if_pos rfl]
  exact h.eq
theorem PK.put {V W W1 W' : World} {L : List (List Int)} {a b k n c c' : Nat} {A A' : Option Addr} {l : List Rw} (h : PK V L a b k A n c l W) (hW : Below W.heap.size W W1) {r : Rw} (hr : RwOk W1 r) (hb : Below V.heap.size W1 W') (hk : KeepI W1 W') (ho : OwnS W' V.heap.size (.slice A' (n + 1) c') (l ++ [r]))
    (he : r.st = if k = a then Sv.rowAt L a ++ Sv.rowAt L b else Sv.rowAt L k) (hkb : k = a ∨ k ≠ b) : PK V L a b (k + 1) A' (n + 1) c' (l ++ [r]) W' := by
  refine ⟨(below_next h.bel hW).trans hb, ho, by rw [List.length_append, h.len]; rfl, by have := h.le; omega, fun s hs => ?_, ?_⟩
  · rcases List.mem_append.1 hs with hs | hs
    · exact ((h.ok s hs).below hW).keep hk
    · obtain rfl := List.mem_singleton.1 hs
      exact hr.keep hk
  · have e : sts (l ++ [r]) = sts l ++ [r.st] := by unfold sts; simp
    rw [e, h.eq, he, Sv.pick]
    by_cases hka : k = a
    · rw [if_pos hka, if_pos hka]
    · rw [if_neg hka, if_neg hka, if_neg (by rcases hkb with h | h; exact absurd h hka; exact h)]

/-- what a call that joins the best two rows leaves -/
def DJoinPost (w : World) (x : Wd) (A : Option Addr) (n c : Nat) (l : List Rw) (e : Ending) (w' : World) : Prop :=
  (e = .returned (.tuple #[.slice A n c, .bool false]) ∧ Hid (Below w.heap.size w w' ∧ ∀ a ∈ sts l, ∀ b ∈ sts l, a ≠ b → Sv.gain x.N x.D x.T x.os x.ts a b = 0)) ∨
  ∃ (A' : Option Addr) (n' c' : Nat) (l' : List Rw), e = .returned (.tuple #[.slice A' n' c', .bool true]) ∧ Hid (Below w.heap.size w w' ∧ l'.length = n' ∧ n' + 1 = n ∧ SR w' 0 A' l' ∧ Sv.Rws (sts l') ∧ (sts l').flatten.length ≤ 12 ∧ ∀ out, Sv.J x.N x.D x.T x.os x.ts (sts l') out → Sv.J x.N x.D x.T x.os x.ts (sts l) out)
set_option maxHeartbeats 16000000 in
theorem djoin_b (x : Wd) (w : World) (A : Option Addr) (n c : Nat) (l : List Rw) (hx : WAt w x) (hn : l.length = n) (hn2 : n ≤ 12) (hr : SR w 0 A l) (hrw : Sv.Rws (sts l)) (hf12 : (sts l).flatten.length ≤ 12) :
    Calls Tryz.prog 34 #[.agg #[.int .i64 x.N, .slice x.dA x.dm x.dc, .slice x.tA x.tm x.tc, .slice x.A x.m x.c, .slice x.B x.k x.d], .slice A n c] w (DJoinPost w x A n c l) := by
  have HX := Lib.hid (WX.new hx)
  have HB0 : Hid (Below w.heap.size w (w.alloc (.cells #[.int .i64 x.N, .slice x.dA x.dm x.dc, .slice x.tA x.tm x.tc, .slice x.A x.m x.c, .slice x.B x.k x.d] 28))) := below_alloc _ _
  have HSR : Hid (SR (w.alloc (.cells #[.int .i64 x.N, .slice x.dA x.dm x.dc, .slice x.tA x.tm x.tc, .slice x.A x.m x.c, .slice x.B x.k x.d] 28)) 0 A l) := hr.below (below_alloc _ _)
  have HN := Lib.hid hn
  have HRW := Lib.hid hrw
  have HF12 := Lib.hid hf12
  have H12 : Hid (∀ r ∈ l, r.m ≤ 12) := fun r h => by
    have h1 := Sv.flat_ge (l := sts l) (List.mem_map.2 ⟨r, h, rfl⟩)
    rw [(hr.ok r h).sl] at h1
    omega
  obtain ⟨G, hG⟩ : ∃ G, Sv.gainAt x.N x.D x.T x.os x.ts (sts l) = G := ⟨_, rfl⟩
  have HGG := Lib.hid hG
  have HGE : Hid (∀ (i k : Nat) (ri rk : Rw), l[i]? = some ri → l[k]? = some rk → i ≠ k → G i k = Sv.gain x.N x.D x.T x.os x.ts ri.st rk.st) := fun i k ri rk h1 h2 h3 => by
    rw [← hG]
    unfold Sv.gainAt
    rw [if_neg h3, rowAt_sts h1, rowAt_sts h2]
  have HG0 : Hid (∀ i, G i i = 0) := fun i => by rw [← hG]; unfold Sv.gainAt; rw [if_pos rfl]
  have HGN : Hid (∀ i k, n ≤ k → G i k = 0) := fun i k h => by
    rw [← hG]
    unfold Sv.gainAt
    split
    · rfl
    · rw [Sv.rowAt_none (i := k) (by rw [sts_len, hn]; exact h), Sv.gain_none2]
  clear hx hr hn hG hrw hf12
  go_enter Tryz.func34, Tryz.ntmps34
  go_wp2_with fail
  generalize (w.alloc (.cells #[.int .i64 x.N, .slice x.dA x.dm x.dc, .slice x.tA x.tm x.tc, .slice x.A x.m x.c, .slice x.B x.k x.d] 28)) = V at *
  generalize hb1 : w.heap.size = b1 at HX ⊢
  clear hb1
  go_loopg [6, 7, 8, 9] n (fun gk s6 s7 s8 s9 Wx => ∃ (i : Nat) (X Y m : Int) (W : World), W = Wx ∧ i + gk = n ∧ s6 = .int .i64 X ∧ s7 = .int .i64 Y ∧ s8 = .int .i64 m ∧ s9 = .int .i64 i ∧ Hid (Below V.heap.size V W) ∧ Hid (Sv.DB (sts l) G i 0 X Y m))
  case atStart => exact ⟨0, -1, -1, 0, _, rfl, by omega, rfl, rfl, rfl, rfl, Below.refl _ _, Sv.DB.zero _ _⟩
  case round =>
    obtain ⟨i, X0, Y0, m0, W0, rfl, hig, rfl, rfl, rfl, rfl, HB0', HT0⟩ := hrel
    by_cases hlt : i < n
    · obtain ⟨go, rfl⟩ : ∃ j, gk = j + 1 := ⟨gk - 1, by omega⟩
      obtain ⟨ri, hri⟩ := mlist_at l i (by rw [HN.out]; exact hlt)
      have HRI := Lib.hid hri
      have i2 : (i : Int) < (n : Int) := by omega
      clear hri
      go_wp2_with fail
      go_loopg [6, 7, 8, 10] n (fun gk s6 s7 s8 s10 Wx => ∃ (k : Nat) (X Y m : Int) (W : World), W = Wx ∧ k + gk = n ∧ s6 = .int .i64 X ∧ s7 = .int .i64 Y ∧ s8 = .int .i64 m ∧ s10 = .int .i64 k ∧ Hid (Below V.heap.size V W) ∧ Hid (Sv.DB (sts l) G i k X Y m))
      case atStart => exact ⟨0, X0, Y0, m0, _, rfl, by omega, rfl, rfl, rfl, rfl, HB0'.out, HT0.out⟩
      case round =>
        clear HB0' HT0
        obtain ⟨k, X, Y, m, W, rfl, hkg, rfl, rfl, rfl, rfl, HB, HT⟩ := hrel
        by_cases hklt : k < n
        · obtain ⟨gi, rfl⟩ : ∃ j, gk = j + 1 := ⟨gk - 1, by omega⟩
          obtain ⟨rk, hrk⟩ := mlist_at l k (by rw [HN.out]; exact hklt)
          have HRK := Lib.hid hrk
          obtain ⟨ad, hA, hci, hoi⟩ := HSR.out.cell HRI.out
          obtain ⟨ad2, hA2, hck, hok⟩ := HSR.out.cell hrk
          rw [hA] at hA2
          obtain rfl := Option.some.inj hA2
          have HA := Lib.hid hA
          have HOI := Lib.hid hoi
          have HOK := Lib.hid hok
          have k2 : (k : Int) < (n : Int) := by omega
          clear hrk hA hA2 hoi hok
          obtain ⟨p, hp⟩ : ∃ p, Sv.savS x.N x.D x.T x.os x.ts ri.st rk.st = p := ⟨_, rfl⟩
          obtain ⟨sv, er⟩ := p
          have HP := Lib.hid hp
          clear hp
          obtain ⟨r, hr⟩ : ∃ r, Sv.canB x.N x.D x.T x.os x.ts (ri.st ++ rk.st) = r := ⟨_, rfl⟩
          have HR := Lib.hid hr
          clear hr
          have HCE : Hid (∀ U, Below V.heap.size V U → (U.cell? ⟨b1, 0, none⟩ = some (.int .i64 x.N) ∧ U.cell? ⟨b1, 1, none⟩ = some (.slice x.dA x.dm x.dc) ∧ U.cell? ⟨b1, 2, none⟩ = some (.slice x.tA x.tm x.tc) ∧ U.cell? ⟨b1, 3, none⟩ = some (.slice x.A x.m x.c) ∧ U.cell? ⟨b1, 4, none⟩ = some (.slice x.B x.k x.d) ∧ U.cell? (ad.add i) = some (.slice ri.A ri.m ri.c) ∧ U.cell? (ad.add k) = some (.slice rk.A rk.m rk.c) ∧ Below V.heap.size V U)) := fun U hU => ⟨(HX.out.below hU).c0, (HX.out.below hU).c1, (HX.out.below hU).c2, (HX.out.below hU).c3, (HX.out.below hU).c4, by rw [hU.cell (p := ad.add i) (lt_of_cell hci)]; exact hci, by rw [hU.cell (p := ad.add k) (lt_of_cell hck)]; exact hck, hU⟩
          have HC1 : Hid (∀ U, (U.cell? ⟨b1, 0, none⟩ = some (.int .i64 x.N) ∧ U.cell? ⟨b1, 1, none⟩ = some (.slice x.dA x.dm x.dc) ∧ U.cell? ⟨b1, 2, none⟩ = some (.slice x.tA x.tm x.tc) ∧ U.cell? ⟨b1, 3, none⟩ = some (.slice x.A x.m x.c) ∧ U.cell? ⟨b1, 4, none⟩ = some (.slice x.B x.k x.d) ∧ U.cell? (ad.add i) = some (.slice ri.A ri.m ri.c) ∧ U.cell? (ad.add k) = some (.slice rk.A rk.m rk.c) ∧ Below V.heap.size V U) → Calls Tryz.prog 10 #[.agg #[.int .i64 x.N, .slice x.dA x.dm x.dc, .slice x.tA x.tm x.tc, .slice x.A x.m x.c, .slice x.B x.k x.d], .slice ri.A ri.m ri.c, .slice rk.A rk.m rk.c] U fun e U => e = .returned (.tuple #[.int .i64 sv, .int .i64 er]) ∧ (U.cell? ⟨b1, 0, none⟩ = some (.int .i64 x.N) ∧ U.cell? ⟨b1, 1, none⟩ = some (.slice x.dA x.dm x.dc) ∧ U.cell? ⟨b1, 2, none⟩ = some (.slice x.tA x.tm x.tc) ∧ U.cell? ⟨b1, 3, none⟩ = some (.slice x.A x.m x.c) ∧ U.cell? ⟨b1, 4, none⟩ = some (.slice x.B x.k x.d) ∧ U.cell? (ad.add i) = some (.slice ri.A ri.m ri.c) ∧ U.cell? (ad.add k) = some (.slice rk.A rk.m rk.c) ∧ Below V.heap.size V U)) := by
            rintro U ⟨_, _, _, _, _, _, _, h⟩
            exact (dsaved_b x ri.A ri.m ri.c ri.st rk.A rk.m rk.c rk.st U (sv, er) HP.out (HX.out.below h).at_ HOI.out.sl (by have := HOI.out.s2; omega) (HOI.out.below h).st HOK.out.sl (by have := HOK.out.s2; omega) (HOK.out.below h).st).mono fun _ _ ⟨e1, e2⟩ => ⟨e1, HCE.out _ (below_next h e2.out)⟩
          have HC2 : Hid (∀ U, (U.cell? ⟨b1, 0, none⟩ = some (.int .i64 x.N) ∧ U.cell? ⟨b1, 1, none⟩ = some (.slice x.dA x.dm x.dc) ∧ U.cell? ⟨b1, 2, none⟩ = some (.slice x.tA x.tm x.tc) ∧ U.cell? ⟨b1, 3, none⟩ = some (.slice x.A x.m x.c) ∧ U.cell? ⟨b1, 4, none⟩ = some (.slice x.B x.k x.d) ∧ U.cell? (ad.add i) = some (.slice ri.A ri.m ri.c) ∧ U.cell? (ad.add k) = some (.slice rk.A rk.m rk.c) ∧ Below V.heap.size V U) → Calls Tryz.prog 67 #[.slice ri.A ri.m ri.c, .slice rk.A rk.m rk.c] U fun e U => ∃ jA jc, e = .returned (.slice jA (ri.m + rk.m) jc) ∧ Hid (RwOk U ⟨jA, ri.m + rk.m, jc, ri.st ++ rk.st⟩) ∧ (U.cell? ⟨b1, 0, none⟩ = some (.int .i64 x.N) ∧ U.cell? ⟨b1, 1, none⟩ = some (.slice x.dA x.dm x.dc) ∧ U.cell? ⟨b1, 2, none⟩ = some (.slice x.tA x.tm x.tc) ∧ U.cell? ⟨b1, 3, none⟩ = some (.slice x.A x.m x.c) ∧ U.cell? ⟨b1, 4, none⟩ = some (.slice x.B x.k x.d) ∧ U.cell? (ad.add i) = some (.slice ri.A ri.m ri.c) ∧ U.cell? (ad.add k) = some (.slice rk.A rk.m rk.c) ∧ Below V.heap.size V U)) := by
            rintro U ⟨_, _, _, _, _, _, _, h⟩
            refine (dboth_b ri rk U (HOI.out.below h) (HOK.out.below h)).mono ?_
            rintro e U' ⟨jA, jc, rfl, h3⟩
            have h12a := H12.out ri (List.mem_of_getElem? HRI.out)
            have h12b := H12.out rk (List.mem_of_getElem? HRK.out)
            exact ⟨jA, jc, rfl, rw_own h3.out.1 (by omega), HCE.out _ (below_next h h3.out.2)⟩
          have HC3 : Hid (∀ U jA jc, (U.cell? ⟨b1, 0, none⟩ = some (.int .i64 x.N) ∧ U.cell? ⟨b1, 1, none⟩ = some (.slice x.dA x.dm x.dc) ∧ U.cell? ⟨b1, 2, none⟩ = some (.slice x.tA x.tm x.tc) ∧ U.cell? ⟨b1, 3, none⟩ = some (.slice x.A x.m x.c) ∧ U.cell? ⟨b1, 4, none⟩ = some (.slice x.B x.k x.d) ∧ U.cell? (ad.add i) = some (.slice ri.A ri.m ri.c) ∧ U.cell? (ad.add k) = some (.slice rk.A rk.m rk.c) ∧ Below V.heap.size V U) → Hid (RwOk U ⟨jA, ri.m + rk.m, jc, ri.st ++ rk.st⟩) → Calls Tryz.prog 33 #[.agg #[.int .i64 x.N, .slice x.dA x.dm x.dc, .slice x.tA x.tm x.tc, .slice x.A x.m x.c, .slice x.B x.k x.d], .slice jA (ri.m + rk.m) jc] U fun e U => e = .returned (.bool r) ∧ (U.cell? ⟨b1, 0, none⟩ = some (.int .i64 x.N) ∧ U.cell? ⟨b1, 1, none⟩ = some (.slice x.dA x.dm x.dc) ∧ U.cell? ⟨b1, 2, none⟩ = some (.slice x.tA x.tm x.tc) ∧ U.cell? ⟨b1, 3, none⟩ = some (.slice x.A x.m x.c) ∧ U.cell? ⟨b1, 4, none⟩ = some (.slice x.B x.k x.d) ∧ U.cell? (ad.add i) = some (.slice ri.A ri.m ri.c) ∧ U.cell? (ad.add k) = some (.slice rk.A rk.m rk.c) ∧ Below V.heap.size V U)) := by
            rintro U jA jc ⟨_, _, _, _, _, _, _, h⟩ hj
            have h2 := hj.out.s2
            exact (dcan_b x jA (ri.m + rk.m) jc (ri.st ++ rk.st) U r HR.out (HX.out.below h).at_ hj.out.sl (by simp only at h2; omega) hj.out.st).mono fun _ _ ⟨e1, e2⟩ => ⟨e1, HCE.out _ (below_next h e2.out)⟩
          obtain ⟨y0, y1, y2, y3, y4, y5, y6, hB0⟩ := HCE.out W HB.out
          have hB := hB0.drew
          obtain rfl := HA.out
          go_wp2
          go_region_held3 (fun U : World => (U.cell? ⟨b1, 0, none⟩ = some (.int .i64 x.N) ∧ U.cell? ⟨b1, 1, none⟩ = some (.slice x.dA x.dm x.dc) ∧ U.cell? ⟨b1, 2, none⟩ = some (.slice x.tA x.tm x.tc) ∧ U.cell? ⟨b1, 3, none⟩ = some (.slice x.A x.m x.c) ∧ U.cell? ⟨b1, 4, none⟩ = some (.slice x.B x.k x.d) ∧ U.cell? (ad.add i) = some (.slice ri.A ri.m ri.c) ∧ U.cell? (ad.add k) = some (.slice rk.A rk.m rk.c) ∧ Below V.heap.size V U)) (first | exact ⟨y0, y1, y2, y3, y4, y5, y6, hB⟩ | exact ⟨k0, k1, k2', k3, k4, k5, k6, kb⟩ | assumption)
            (first
              | (go_at_call 10; ((with_reducible refine (HC1.out _ (by assumption)).mono ?_)); rintro e w7 ⟨rfl, k0, k1, k2', k3, k4, k5, k6, kb⟩))
          have HB2 := Lib.hid kb
          clear y0 y1 y2 y3 y4 y5 y6 hB0 hB k0 k1 k2' k3 k4 k5 k6 kb HC1 hci hck
          have hs1 : (Sv.savS x.N x.D x.T x.os x.ts ri.st rk.st).1 = sv := by rw [HP.out]
          have HSV := Lib.hid hs1
          clear hs1
          by_cases hik : i = k
          · have e0 : ((i : Int) == (k : Int)) = true := by rw [hik]; simp
            have e0' : (i == k) = true := by rw [hik]; simp
            have HT2 := Lib.hid (HT.out.skip (.inl (by rw [hik, HG0.out])))
            clear HC2 HC3 HCE hik
            go_wp2
            go_quiet (fail)
            go_wp2
            go_roundg gi
            case measure => omega
            case rel => exact ⟨k + 1, X, Y, m, _, rfl, by omega, rfl, rfl, rfl, by first | rfl | go_num, below_next HB2.out (drewN_below _ _), HT2.out⟩
          · have e0 : ((i : Int) == (k : Int)) = false := by rw [beq_eq_false_iff_ne]; omega
            have e0' : (i == k) = false := by rw [beq_eq_false_iff_ne]; omega
            have HGK := Lib.hid (HGE.out i k ri rk HRI.out HRK.out hik)
            have HNE := Lib.hid hik
            have HIL : Hid (i < (sts l).length) := by unfold Hid; rw [sts_len, HN.out]; exact hlt
            have HKL : Hid (k < (sts l).length) := by unfold Hid; rw [sts_len, HN.out]; exact hklt
            clear hik
            by_cases hs1 : sv < 1
            · have d1 : decide (sv < (1 : Int)) = true := decide_eq_true hs1
              have HT2 := Lib.hid (HT.out.skip (.inl (by rw [HGK.out]; exact Sv.gain_no1 (by rw [HSV.out]; omega))))
              clear HC2 HC3 HCE hs1
              go_wp2
              go_quiet (fail)
              go_wp2
              go_roundg gi
              case measure => omega
              case rel => exact ⟨k + 1, X, Y, m, _, rfl, by omega, rfl, rfl, rfl, by first | rfl | go_num, below_next HB2.out (drewN_below _ _), HT2.out⟩
            · have d1 : decide (sv < (1 : Int)) = false := decide_eq_false hs1
              have HS1 : Hid (0 < sv) := by unfold Hid; omega
              clear hs1
              by_cases hs2 : sv < m
              · have d2 : decide (sv < m) = true := decide_eq_true hs2
                have HT2 := Lib.hid (HT.out.skip (by
                  rw [HGK.out]
                  rcases Sv.gain_le (N := x.N) (D := x.D) (T := x.T) (os := x.os) (ts := x.ts) ri.st rk.st with h | h
                  · rw [HSV.out] at h; exact .inr (by omega)
                  · exact .inl h))
                clear HC2 HC3 HCE hs2
                go_wp2
                go_quiet (fail)
                go_wp2
                go_roundg gi
                case measure => omega
                case rel => exact ⟨k + 1, X, Y, m, _, rfl, by omega, rfl, rfl, rfl, by first | rfl | go_num, below_next HB2.out (drewN_below _ _), HT2.out⟩
              · have d2 : decide (sv < m) = false := decide_eq_false hs2
                have HS2 : Hid (m ≤ sv) := by unfold Hid; omega
                clear hs2
                obtain ⟨y0, y1, y2, y3, y4, y5, y6, hB0⟩ := HCE.out _ HB2.out
                have hB := hB0.drew
                clear HB2
                go_wp2
                go_region_held3 (fun U : World => (U.cell? ⟨b1, 0, none⟩ = some (.int .i64 x.N) ∧ U.cell? ⟨b1, 1, none⟩ = some (.slice x.dA x.dm x.dc) ∧ U.cell? ⟨b1, 2, none⟩ = some (.slice x.tA x.tm x.tc) ∧ U.cell? ⟨b1, 3, none⟩ = some (.slice x.A x.m x.c) ∧ U.cell? ⟨b1, 4, none⟩ = some (.slice x.B x.k x.d) ∧ U.cell? (ad.add i) = some (.slice ri.A ri.m ri.c) ∧ U.cell? (ad.add k) = some (.slice rk.A rk.m rk.c) ∧ Below V.heap.size V U)) (first | exact ⟨y0, y1, y2, y3, y4, y5, y6, hB⟩ | exact ⟨k0, k1, k2', k3, k4, k5, k6, kb⟩ | assumption)
                  (first
                    | (go_at_call 67; ((with_reducible refine (HC2.out _ (by assumption)).mono ?_)); rintro e w8 ⟨jA, jc, rfl, HJO, k0, k1, k2', k3, k4, k5, k6, kb⟩)
                    | (go_at_call 33; ((with_reducible refine (HC3.out _ _ _ (by assumption) HJO).mono ?_)); rintro e w9 ⟨rfl, k0, k1, k2', k3, k4, k5, k6, kb⟩))
                have HB2 := Lib.hid kb
                rename_i hHeld
                clear hHeld
                clear y0 y1 y2 y3 y4 y5 y6 hB0 hB k0 k1 k2' k3 k4 k5 k6 kb HJO HC2 HC3 HCE
                cases r with
                | false =>
                  have HT2 := Lib.hid (HT.out.skip (.inl (by rw [HGK.out]; exact Sv.gain_no2 HR.out)))
                  go_wp2
                  go_roundg gi
                  case measure => omega
                  case rel => exact ⟨k + 1, X, Y, m, _, rfl, by omega, rfl, rfl, rfl, by first | rfl | go_num, HB2.out, HT2.out⟩
                | true =>
                  have HGS : Hid (G i k = sv) := by
                    unfold Hid
                    rw [HGK.out, Sv.gain_yes (by rw [HSV.out]; exact HS1.out) HR.out]
                    exact HSV.out
                  have HSW := Lib.hid (HSR.out.below HB2.out)
                  rcases HT.out.cases with ⟨hX, hm⟩ | ⟨a, b, hX, hY, hal, hbl, hab⟩
                  · subst hX hm
                    have d3 : decide ((-1 : Int) < (0 : Int)) = true := by decide
                    have HT2 := Lib.hid (HT.out.take HIL.out HKL.out HNE.out HGS.out HS1.out (fun a b h1 _ => by omega))
                    go_wp2
                    go_quiet (fail)
                    go_wp2
                    go_roundg gi
                    case measure => omega
                    case rel => exact ⟨k + 1, i, k, sv, _, rfl, by omega, rfl, rfl, rfl, by first | rfl | go_num, below_next HB2.out (drewN_below _ _), HT2.out⟩
                  · subst hX hY
                    have d3 : decide ((a : Int) < (0 : Int)) = false := decide_eq_false (by omega)
                    by_cases hgt : m < sv
                    · have d4 : decide (m < sv) = true := decide_eq_true hgt
                      have HT2 := Lib.hid (HT.out.take HIL.out HKL.out HNE.out HGS.out HS1.out (fun a b _ _ => .inl hgt))
                      clear hgt
                      go_wp2
                      go_quiet (fail)
                      go_wp2
                      go_roundg gi
                      case measure => omega
                      case rel => exact ⟨k + 1, i, k, sv, _, rfl, by omega, rfl, rfl, rfl, by first | rfl | go_num, below_next HB2.out (drewN_below _ _), HT2.out⟩
                    · have d4 : decide (m < sv) = false := decide_eq_false hgt
                      have HEQ : Hid (m = sv) := by have := HS2.out; unfold Hid; omega
                      obtain ⟨ra, hra⟩ := mlist_at l a (by rw [← sts_len]; exact hal)
                      obtain ⟨rb, hrb⟩ := mlist_at l b (by rw [← sts_len]; exact hbl)
                      have hne : ∀ (q : Nat) (r : Rw), l[q]? = some r → r.st ≠ [] := fun q r h => HRW.out.ne r.st (List.mem_map.2 ⟨r, List.mem_of_getElem? h, rfl⟩)
                      obtain ⟨a1, ea, hca, hoa⟩ := HSW.out.cell hra
                      obtain rfl := Option.some.inj ea
                      obtain ⟨a2, eb, hcb, hob⟩ := HSW.out.cell hrb
                      obtain rfl := Option.some.inj eb
                      obtain ⟨a3, ei, hci, hoi⟩ := HSW.out.cell HRI.out
                      obtain rfl := Option.some.inj ei
                      obtain ⟨a4, ek, hck, hok⟩ := HSW.out.cell HRK.out
                      obtain rfl := Option.some.inj ek
                      obtain ⟨pa, eA, hpa, hma⟩ := row_first hoa (hne a ra hra)
                      obtain ⟨pb, eB, hpb, hmb⟩ := row_first hob (hne b rb hrb)
                      obtain ⟨pi, eI, hpi, hmi⟩ := row_first hoi (hne i ri HRI.out)
                      obtain ⟨pk, eK, hpk, hmk⟩ := row_first hok (hne k rk HRK.out)
                      have HTK : Hid (¬ Sv.hd ra.st < Sv.hd ri.st ∧ (Sv.hd ri.st < Sv.hd ra.st ∨ Sv.hd ri.st = Sv.hd ra.st ∧ Sv.hd rk.st < Sv.hd rb.st) → Sv.DB (sts l) G i (k + 1) (i : Int) (k : Int) sv) := fun h => by
                        refine HT.out.take HIL.out HKL.out HNE.out HGS.out HS1.out (fun a' b' h1 h2 => ?_)
                        obtain rfl : a = a' := by omega
                        obtain rfl : b = b' := by omega
                        refine .inr ⟨HEQ.out, ?_⟩
                        rw [rowAt_sts HRI.out, rowAt_sts HRK.out, rowAt_sts hra, rowAt_sts hrb]
                        omega
                      have HKP : Hid (¬ Sv.hd ri.st < Sv.hd ra.st → ¬ (Sv.hd ri.st = Sv.hd ra.st ∧ Sv.hd rk.st < Sv.hd rb.st) → Sv.DB (sts l) G i (k + 1) (a : Int) (b : Int) m) := fun h1 h2 => by
                        refine HT.out.keep (by rw [HGS.out, HEQ.out]) ?_ ?_
                        · rw [rowAt_sts HRI.out, rowAt_sts hra]; exact h1
                        · rw [rowAt_sts HRI.out, rowAt_sts hra, rowAt_sts HRK.out, rowAt_sts hrb]; exact h2
                      rw [eA] at hca
                      rw [eB] at hcb
                      rw [eI] at hci
                      rw [eK] at hck
                      have g1 : (0 : Int) < (ra.m : Int) := by omega
                      have g2 : (0 : Int) < (rb.m : Int) := by omega
                      have g3 : (0 : Int) < (ri.m : Int) := by omega
                      have g4 : (0 : Int) < (rk.m : Int) := by omega
                      have g5 : (a : Int) < (n : Int) := by rw [← HN.out, ← sts_len]; omega
                      have g6 : (b : Int) < (n : Int) := by rw [← HN.out, ← sts_len]; omega
                      generalize Sv.hd ra.st = ha at *
                      generalize Sv.hd rb.st = hb at *
                      generalize Sv.hd ri.st = hi at *
                      generalize Sv.hd rk.st = hk at *
                      clear hra hrb hne hoa hob hoi hok eA eB eI eK hal hbl hab hgt
                      by_cases h1 : hi < ha
                      · have d5 : decide (hi < ha) = true := decide_eq_true h1
                        have HT2 := Lib.hid (HTK.out ⟨by omega, .inl h1⟩)
                        clear h1
                        go_wp2
                        go_quiet (fail)
                        go_wp2
                        go_roundg gi
                        case measure => omega
                        case rel => exact ⟨k + 1, i, k, sv, _, rfl, by omega, rfl, rfl, rfl, by first | rfl | go_num, below_next HB2.out (drewN_below _ _), HT2.out⟩
                      · have d5 : decide (hi < ha) = false := decide_eq_false h1
                        by_cases h2 : hi = ha
                        · have d6 : (hi == ha) = true := by rw [h2]; simp
                          by_cases h3 : hk < hb
                          · have d7 : decide (hk < hb) = true := decide_eq_true h3
                            have HT2 := Lib.hid (HTK.out ⟨by omega, .inr ⟨h2, h3⟩⟩)
                            clear h1 h2 h3
                            go_wp2
                            go_quiet (fail)
                            go_wp2
                            go_roundg gi
                            case measure => omega
                            case rel => exact ⟨k + 1, i, k, sv, _, rfl, by omega, rfl, rfl, rfl, by first | rfl | go_num, below_next HB2.out (drewN_below _ _), HT2.out⟩
                          · have d7 : decide (hk < hb) = false := decide_eq_false h3
                            have HT2 := Lib.hid (HKP.out h1 (fun h => h3 h.2))
                            clear h1 h2 h3
                            go_wp2
                            go_quiet (fail)
                            go_wp2
                            go_roundg gi
                            case measure => omega
                            case rel => exact ⟨k + 1, a, b, m, _, rfl, by omega, rfl, rfl, rfl, by first | rfl | go_num, below_next HB2.out (drewN_below _ _), HT2.out⟩
                        · have d6 : (hi == ha) = false := by rw [beq_eq_false_iff_ne]; exact h2
                          have HT2 := Lib.hid (HKP.out h1 (fun h => h2 h.1))
                          clear h1 h2
                          go_wp2
                          go_quiet (fail)
                          go_wp2
                          go_roundg gi
                          case measure => omega
                          case rel => exact ⟨k + 1, a, b, m, _, rfl, by omega, rfl, rfl, rfl, by first | rfl | go_num, below_next HB2.out (drewN_below _ _), HT2.out⟩
        · have HT2 := Lib.hid (HT.out.row (fun k' h => HGN.out i k' (by omega)))
          go_wp2
          go_roundg go
          case measure => omega
          case rel => exact ⟨i + 1, X, Y, m, _, rfl, by omega, rfl, rfl, rfl, by first | rfl | go_num, HB.out, HT2.out⟩
    · obtain rfl : i = n := by omega
      have HDB : Hid (Sv.DB (sts l) (Sv.gainAt x.N x.D x.T x.os x.ts (sts l)) (sts l).length 0 X0 Y0 m0) := by rw [HGG.out, sts_len, HN.out]; exact HT0.out
      rcases HT0.out.cases with ⟨hX, hm⟩ | ⟨a, b, hX, hY, hal, hbl, hab⟩
      · subst hX
        have d1 : decide ((-1 : Int) < (0 : Int)) = true := by decide
        have HNO : Hid (∀ a ∈ sts l, ∀ b ∈ sts l, a ≠ b → Sv.gain x.N x.D x.T x.os x.ts a b = 0) := Sv.db_none HDB.out
        have HB9 := Lib.hid (below_next HB0.out HB0'.out)
        clear hm
        go_wp2
        go_ret2
        exact .inl ⟨rfl, HB9.out, HNO.out⟩
      · subst hX hY
        have d1 : decide ((a : Int) < (0 : Int)) = false := decide_eq_false (by omega)
        obtain ⟨ra, hra⟩ := mlist_at l a (by rw [← sts_len]; exact hal)
        obtain ⟨rb, hrb⟩ := mlist_at l b (by rw [← sts_len]; exact hbl)
        have HRA := Lib.hid hra
        have HRB := Lib.hid hrb
        have HAB := Lib.hid hab
        have g5 : (a : Int) < (i : Int) := by rw [← HN.out, ← sts_len]; omega
        have g6 : (b : Int) < (i : Int) := by rw [← HN.out, ← sts_len]; omega
        have hBW : Below V.heap.size V (W0.alloc (.cells #[] 29)) := HB0'.out.alloc HB0'.out.size _
        have HPK0 : Hid (PK V (sts l) a b 0 (some ⟨W0.heap.size, 0, none⟩) 0 0 [] (W0.alloc (.cells #[] 29))) := ⟨hBW, ownS_none _ _ HB0'.out.size, rfl, Nat.le_refl _, fun r hr => (by cases hr), rfl⟩
        have HAL : Hid (a < i ∧ b < i) := by rw [sts_len, HN.out] at hal hbl; exact ⟨hal, hbl⟩
        clear hra hrb hal hbl hab hBW
        go_wp2_with fail
        go_loopg [13, 14] i (fun gk s13 s14 Wx => ∃ (k : Nat) (B : Option Addr) (nn cc : Nat) (l2 : List Rw) (W : World), W = Wx ∧ k + gk = i ∧ s13 = .slice B nn cc ∧ s14 = .int .i64 k ∧ Hid (PK V (sts l) a b k B nn cc l2 W))
        case atStart => exact ⟨0, _, _, _, [], _, rfl, by omega, rfl, rfl, HPK0.out⟩
        case round =>
          clear HPK0
          obtain ⟨k, B, nn, cc, l2, W, rfl, hkg, rfl, rfl, HPK⟩ := hrel
          have hle := HPK.out.le
          have hlen := HPK.out.len
          subst hlen
          by_cases hklt : k < i
          · obtain ⟨gi, rfl⟩ : ∃ j, gk = j + 1 := ⟨gk - 1, by omega⟩
            obtain ⟨rk, hrk⟩ := mlist_at l k (by rw [HN.out]; exact hklt)
            have HRK := Lib.hid hrk
            have HSW := Lib.hid (HSR.out.below HPK.out.bel)
            obtain ⟨ad, hA, hck, hok⟩ := HSW.out.cell hrk
            obtain ⟨a1, ea, hca, hoa⟩ := HSW.out.cell HRA.out
            rw [hA] at ea
            obtain rfl := Option.some.inj ea
            obtain ⟨a2, eb, hcb, hob⟩ := HSW.out.cell HRB.out
            rw [hA] at eb
            obtain rfl := Option.some.inj eb
            have HOK := Lib.hid hok
            have HOA := Lib.hid hoa
            have HOB := Lib.hid hob
            have k2 : (k : Int) < (i : Int) := by omega
            subst hA
            clear hrk hok hoa hob ea eb
            by_cases hka : k = a
            · have e0 : ((k : Int) == (a : Int)) = true := by rw [hka]; simp
              have e0' : (k == a) = true := by rw [hka]; simp
              have h12a := H12.out ra (List.mem_of_getElem? HRA.out)
              have h12b := H12.out rb (List.mem_of_getElem? HRB.out)
              have HKA := Lib.hid hka
              clear hka
              have HWD : Hid (Below W.heap.size W W.drew) := (Below.refl _ _).drew
              have HBO := Lib.hid (dboth_b ra rb W.drew (HOA.out.below HWD.out) (HOB.out.below HWD.out))
              have HAPG : Hid (∀ (W3 : World) (jA : Option Addr) (jc : Nat), (OwnI W3 W.drew.heap.size (.slice jA (ra.m + rb.m) jc) (ra.st ++ rb.st) ∧ Below W.drew.heap.size W.drew W3) → ∃ v' w', (Builtin.append_ #[35, 35] 35 #[.slice B l2.length cc, .slice (some ⟨W3.heap.size, 0, none⟩) 1 1]).run Tryz.prog (W3.alloc (.cells #[.slice jA (ra.m + rb.m) jc] 29)) = .ok v' w' ∧ ∃ B1 cc1 l3, v' = .slice B1 (l2.length + 1) cc1 ∧ Hid (PK V (sts l) a b (k + 1) B1 (l2.length + 1) cc1 l3 w')) := fun W3 jA jc h3 => by
                have hW3 := below_next HWD.out h3.2
                obtain ⟨v', w', h1, B1, cc1, rfl, HC1⟩ := owns_app (HPK.out.own.below hW3) (Nat.le_trans HPK.out.bel.size hW3.size) ⟨jA, ra.m + rb.m, jc, ra.st ++ rb.st⟩ (by omega)
                have h := HC1.out.1
                rw [List.length_append] at h h1
                exact ⟨_, w', h1, B1, cc1, _, rfl, HPK.out.put hW3 (rw_own h3.1 (by omega)) (HC1.out.2.1) HC1.out.2.2.1 h (by rw [if_pos HKA.out, rowAt_sts HRA.out, rowAt_sts HRB.out]) (.inl HKA.out)⟩
              clear hck HSW HOK HWD
              go_wp2
              go_region_law (first
                | (refine step_append_w (w3.alloc (.cells #[.slice jA (ra.m + rb.m) jc] 29)) (by with_reducible rfl) (by rfl) (.tmp 134) (.tmp 144) 35 35 35 (by rfl) (by rfl) (.slice B l2.length cc) (.slice (some ⟨w3.heap.size, 0, none⟩) 1 1) (by rfl) (by rfl) _ HAP.out ?_
                   rintro v1 w1 ⟨B1, cc1, l3, rfl, HP2⟩)
                | (go_simp; go_at_call 67; ((with_reducible refine HBO.out.mono ?_)); rintro e w3 ⟨jA, jc, rfl, h3⟩; have HAP := Lib.hid (HAPG.out _ _ _ h3.out)))
              all_goals
                clear hca hcb HBO HAPG
                go_wp2
                go_roundg gi
                case measure => omega
                case rel => exact ⟨k + 1, B1, l2.length + 1, cc1, l3, _, rfl, by omega, by first | rfl | go_num, by first | rfl | go_num, HP2.out⟩
            · have e0 : ((k : Int) == (a : Int)) = false := by rw [beq_eq_false_iff_ne]; omega
              have e0' : (k == a) = false := by rw [beq_eq_false_iff_ne]; omega
              by_cases hkb : k = b
              · have e1 : ((k : Int) != (b : Int)) = false := by rw [hkb]; simp
                have e1' : (k != b) = false := by rw [hkb]; simp
                have HP2 : Hid (PK V (sts l) a b (k + 1) B l2.length cc l2 W) := by
                  subst hkb
                  exact HPK.out.skip HAB.out
                clear hkb hka
                go_wp2
                go_roundg gi
                case measure => omega
                case rel => exact ⟨k + 1, _, _, _, l2, _, rfl, by omega, rfl, by first | rfl | go_num, HP2.out⟩
              · have e1 : ((k : Int) != (b : Int)) = true := bne_iff_ne.2 (by omega)
                have e1' : (k != b) = true := bne_iff_ne.2 hkb
                have HKN : Hid (k ≠ a ∧ k ≠ b) := ⟨hka, hkb⟩
                have HAP := Lib.hid (owns_app HPK.out.own HPK.out.bel.size rk (by omega))
                clear hkb hka
                go_wp2_with (at_builtin; refine wpList_append_any rfl (.tmp 149) (.tmp 154) 35 35 rfl _ _ rfl rfl _ HAP.out ?_; intro v1 w1 hc1; obtain ⟨B1, cc1, rfl, HC1⟩ := hc1)
                have HP2 : Hid (PK V (sts l) a b (k + 1) B1 (l2.length + 1) cc1 (l2 ++ [rk]) w1) := by
                  have h := HC1.out.1
                  rw [List.length_append] at h
                  exact HPK.out.put (Below.refl _ _) (HSW.out.ok rk (List.mem_of_getElem? HRK.out)) (HC1.out.2.1) HC1.out.2.2.1 h (by rw [if_neg HKN.out.1, rowAt_sts HRK.out]) (.inr HKN.out.2)
                go_roundg gi
                case measure => omega
                case rel => exact ⟨k + 1, B1, l2.length + 1, cc1, _, _, rfl, by omega, by first | rfl | go_num, by first | rfl | go_num, HP2.out⟩
          · have hki : k = i := by omega
            subst hki
            have HNX : Hid (sts l2 = Sv.nextL (sts l) a b) := by
              unfold Hid
              rw [HPK.out.eq]
              have h := Sv.pick_next (l := sts l) (a := a) (b := b) (by rw [sts_len, HN.out]; exact HAL.out.2) HAB.out
              rw [sts_len, HN.out] at h
              exact h
            have HBF := Lib.hid (below_next HB0.out HPK.out.bel)
            have HDB2 : Hid (Sv.DB (sts l) (Sv.gainAt x.N x.D x.T x.os x.ts (sts l)) (sts l).length 0 (a : Int) (b : Int) m0) := HDB.out
            have HFIN : Hid (l2.length + 1 = k ∧ SR W 0 B l2 ∧ Sv.Rws (sts l2) ∧ (sts l2).flatten.length ≤ 12 ∧ ∀ out, Sv.J x.N x.D x.T x.os x.ts (sts l2) out → Sv.J x.N x.D x.T x.os x.ts (sts l) out) := by
              obtain ⟨h1, h2, h3⟩ := Sv.next_rws HRW.out (sts_at HRA.out) (sts_at HRB.out) HAB.out
              obtain ⟨A', c', e, _, _, h4, _⟩ := HPK.out.own.row HPK.out.ok
              injection e with e1 e2 e3
              subst e1
              rw [← HNX.out] at h1 h2 h3
              rw [sts_len, sts_len, HN.out] at h3
              refine ⟨h3, h4.mono (Nat.zero_le _), h1, by rw [h2]; exact HF12.out, fun out hj => ?_⟩
              rw [HNX.out] at hj
              exact Sv.db_step HRW.out HDB2.out hj
            go_wp2
            go_ret2
            exact .inr ⟨B, l2.length, cc, l2, rfl, HBF.out, rfl, HFIN.out.1, HFIN.out.2⟩
end Go.Proofs.YtjidelfpmlnhkaaGreat
