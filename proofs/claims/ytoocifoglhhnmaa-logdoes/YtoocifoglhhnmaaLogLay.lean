/- Contracts of package log: a half's lay and record. -/
import Derived.Test.YtoocifoglhhnmaaLogWipe
namespace Go.Proofs.Ytoocifoglhhnmaa
open Go.RowKit
set_option linter.unusedVariables false

theorem DiskAt.drew {w : World} {g s n : Nat} {d : Dk.D} (h : DiskAt w g s n d) : DiskAt w.drew g s n d := ⟨h.top, h.row, h.good, h.n0, h.n1⟩

set_option maxHeartbeats 2000000 in
set_option maxRecDepth 100000 in
theorem hlay_any (g s n st size a K : Nat) (d : Dk.D) (A : Option Addr) (N c : Nat) (l : Dk.Bs) (w : World) (h : DiskAt w g s n d) (hK : 1 ≤ K) (ha : st + a + K ≤ n) (hw : d.writes + K ≤ 1000000) (hN : l.length = N) (hNK : N = 32 * K) (hNc : N ≤ c) (hb : BytesIn (Two g s) w A l) :
    Calls Try.prog 43 #[.agg #[.pointer (some ⟨g, 0, none⟩), .int .i64 st, .int .i64 size], .int .i64 a, .slice A N c] w fun e w' => e = .returned (.int .i64 (Lg.layS n (st + a) l (K - 1) 1 d).2) ∧ DiskAt w' g s n (Lg.layS n (st + a) l (K - 1) 1 d).1 ∧ Kept (Two g s) w w' := by
  have hn1 := h.n1
  have hk0 : Kept (Two g s) w (w.alloc (.cells #[.pointer (some ⟨g, 0, none⟩), .int .i64 st, .int .i64 size] 65)) := (Kept.refl _ _).alloc _
  have HX := Lib.hid (BoxAt.new w g st size)
  have HB0 := Lib.hid hk0
  have HD := Lib.hid (h.alloc (.cells #[.pointer (some ⟨g, 0, none⟩), .int .i64 st, .int .i64 size] 65))
  have HNT : Hid (¬ Two g s w.heap.size) := by
    have h1 := h.ltg
    have h2 := h.lts
    rintro (e | e) <;> omega
  have HBY := Lib.hid hb
  have HSL : Hid (∀ fr, fr + 32 ≤ N → ∃ A' c', (∀ W : World, (Instr.slice 38 (.slice A N c) (some (.int .i64 (fr : Int))) (some (.int .i64 ((fr : Int) + 32))) none).run Try.prog W = .ok (.slice A' 32 c') W) ∧ ∀ (F : Nat → Prop) (W : World), BytesIn F W A l → BytesIn F W A' ((l.drop fr).take 32)) := fun fr hfr => by
    obtain ⟨A', c', h1, _, _, _, h2⟩ := slice_part A N c fr (fr + 32) hNc (by omega) hfr
    rw [show fr + 32 - fr = 32 by omega] at h1 h2
    exact ⟨A', c', fun W => by rw [show (fr : Int) + 32 = ((fr + 32 : Nat) : Int) by omega]; exact h1 W, fun F W hh => h2 F W l hN hh⟩
  have hs0 : ∀ W : World, (Instr.slice 38 (.slice A N c) none (some (.int .i64 32)) none).run Try.prog W = .ok (.slice A 32 c) W := slice_front A N c 32 hNc (by omega)
  have HSEC : Hid (∀ i, i < K → ((l.drop (32 * i)).take 32).length = 32) := fun i hi => by rw [List.length_take, List.length_drop]; omega
  have HNK : Hid (N = 32 * K) := hNK
  have hKb : K ≤ 4096 := by omega
  have HNb : Hid (N ≤ 200000) := by unfold Hid; omega
  clear hk0 h hb hN hNc
  obtain ⟨R, hR⟩ : ∃ R, Lg.layS n (st + a) l (K - 1) 1 d = R := ⟨_, rfl⟩
  have HR0 := Lib.hid hR
  rw [hR]
  clear hR hNK
  go_enter Try.func43, Try.ntmps43
  go_wp2
  generalize w.alloc (.cells #[.pointer (some ⟨g, 0, none⟩), .int .i64 st, .int .i64 size] 65) = W0 at *
  go_loopg [6, 7, 8] K (fun gk s6 s7 s8 W => ∃ (dc : Dk.D) (i fr : Nat), 1 ≤ i ∧ i ≤ K ∧ i + gk = K + 1 ∧ fr ≤ 200000 ∧ Hid (fr = 32 * i) ∧ s6 = .int .i64 0 ∧ s7 = .int .i64 fr ∧ dc.writes + (K - i + 1 : Nat) ≤ 1000000 ∧ Hid (Lg.layS n (st + a) l (K - i) i dc = R) ∧ Hid (DiskAt W g s n dc) ∧ Hid (BoxAt W w.heap.size g st size) ∧ Hid (Kept (Two g s) w W))
  case atStart => exact ⟨d, 1, 32, by omega, by omega, by omega, by omega, rfl, rfl, rfl, by omega, HR0.out, HD.out, HX.out, HB0.out⟩
  case round =>
    clear HD HX HB0 HR0
    obtain ⟨dc, i, fr, h1, h2, h3, h4, HFR, rfl, rfl, h5, HR, HD, HX, HB⟩ := hrel
    have x0 := HX.out.c0
    have x1 := HX.out.c1
    have x2 := HX.out.c2
    by_cases hlt : i < K
    · obtain ⟨gk, rfl⟩ : ∃ j, gk = j + 1 := ⟨gk - 1, by omega⟩
      have d1 : decide ((fr : Int) < (N : Int)) = true := decide_eq_true (by have := HFR.out; have := HNK.out; omega)
      have d2 : decide (fr < N) = true := decide_eq_true (by have := HFR.out; have := HNK.out; omega)
      have hq : (fr : Int) / 32 = (i : Int) := by have := HFR.out; omega
      have hw1 : IntKind.i64.wrap (i : Int) = (i : Int) := by rw [IntKind.wrap_i64]; omega
      have hw2 : IntKind.i64.wrap ((a : Int) + (i : Int)) = (a : Int) + (i : Int) := by rw [IntKind.wrap_i64]; omega
      have hw3 : IntKind.i64.wrap ((fr : Int) + 32) = (fr : Int) + 32 := by rw [IntKind.wrap_i64]; omega
      obtain ⟨A', c', hs, hy⟩ := HSL.out fr (by have := HFR.out; have := HNK.out; omega)
      have hby := hy (Two g s) wr (CellsIn.keep HBY.out HB.out)
      have hls := HSEC.out i hlt
      rw [← HFR.out] at hls
      have HE : Hid ((if (Lg.wr n dc (st + a + i) ((l.drop fr).take 32)).2 = 0 then Lg.layS n (st + a) l (K - (i + 1)) (i + 1) (Lg.wr n dc (st + a + i) ((l.drop fr).take 32)).1 else Lg.wr n dc (st + a + i) ((l.drop fr).take 32)) = R) := by
        have := HR.out
        rw [show K - i = (K - (i + 1)) + 1 by omega] at this
        unfold Lg.layS at this
        unfold Dk.sec at this
        rw [← HFR.out] at this
        exact this
      have HWW := Lib.hid (Lg.wr_writes (n := n) dc (st + a + i) ((l.drop fr).take 32))
      have HWR := hwrite_any g s n st size (a + i) dc A' 32 c' ((l.drop fr).take 32) wr.drew HD.out.drew (by omega) (by omega) hls (by omega) hby
      rw [← Nat.add_assoc, show ((a + i : Nat) : Int) = (a : Int) + (i : Int) by omega] at HWR
      have HWR := Lib.hid HWR
      clear HR hby hls hy
      generalize Lg.wr n dc (st + a + i) ((l.drop fr).take 32) = q at *
      go_wp2_with fail
      have HKD : Hid (∀ w2, Kept (Two g s) wr.drew w2 → Kept (Two g s) wr w2) := fun w2 hk2 => ⟨hk2.os, hk2.tape, hk2.output, hk2.size, hk2.block⟩
      have y0 : wr.drew.cell? ⟨w.heap.size, 0, none⟩ = some (.pointer (some ⟨g, 0, none⟩)) := x0
      have y1 : wr.drew.cell? ⟨w.heap.size, 1, none⟩ = some (.int .i64 st) := x1
      have y2 : wr.drew.cell? ⟨w.heap.size, 2, none⟩ = some (.int .i64 size) := x2
      go_still_tail 10, (by kernel_rfl)
      go_wp2_with fail
      refine HWR.out.mono ?_
      rintro e w2 ⟨rfl, hd2, hk2⟩
      have HD2 := Lib.hid hd2
      have hk2' := HKD.out w2 hk2
      have HX2 := Lib.hid (HX.out.keep hk2' HNT.out)
      have HB2 := Lib.hid (HB.out.trans hk2')
      clear hd2 hk2 hk2'
      by_cases hq0 : q.2 = 0
      · have HE2 : Hid (Lg.layS n (st + a) l (K - (i + 1)) (i + 1) q.1 = R) := by have := HE.out; rw [if_pos hq0] at this; exact this
        have d3 : (q.2 != 0) = false := by rw [hq0]; rfl
        clear HE
        go_wp2
        go_roundg gk
        case measure => omega
        case rel => exact ⟨q.1, i + 1, fr + 32, by omega, by omega, by omega, by have := HNb.out; have := HFR.out; have := HNK.out; omega, by have := HFR.out; unfold Hid; omega, rfl, by first | rfl | go_num, by have := HWW.out; omega, HE2.out, HD2.out, HX2.out, HB2.out⟩
      · have HE2 : Hid (q = R) := by have := HE.out; rw [if_neg hq0] at this; exact this
        have d3 : (q.2 != 0) = true := bne_iff_ne.2 hq0
        clear HE
        go_wp2
        go_ret
        exact ⟨by rw [← HE2.out]; rfl, by rw [← HE2.out]; exact HD2.out, HB2.out⟩
    · obtain rfl : i = K := by omega
      have d1 : decide ((fr : Int) < (N : Int)) = false := decide_eq_false (by have := HFR.out; have := HNK.out; omega)
      have d2 : decide (fr < N) = false := decide_eq_false (by have := HFR.out; have := HNK.out; omega)
      have hls := HSEC.out 0 (by omega)
      rw [Nat.mul_zero] at hls
      have HE : Hid (Lg.wr n dc (st + a) ((l.drop 0).take 32) = R) := by
        have := HR.out
        rw [Nat.sub_self] at this
        exact this
      have hby : BytesIn (Two g s) wr A ((l.drop 0).take 32) := bytes_take (CellsIn.keep HBY.out HB.out) 32
      have HWR := Lib.hid (hwrite_any g s n st size a dc A 32 c ((l.drop 0).take 32) wr.drew HD.out.drew (by omega) (by omega) hls (by omega) hby)
      clear HR hby hls
      generalize Lg.wr n dc (st + a) ((l.drop 0).take 32) = q at *
      go_wp2_with fail
      have HKD : Hid (∀ w2, Kept (Two g s) wr.drew w2 → Kept (Two g s) wr w2) := fun w2 hk2 => ⟨hk2.os, hk2.tape, hk2.output, hk2.size, hk2.block⟩
      have y0 : wr.drew.cell? ⟨w.heap.size, 0, none⟩ = some (.pointer (some ⟨g, 0, none⟩)) := x0
      have y1 : wr.drew.cell? ⟨w.heap.size, 1, none⟩ = some (.int .i64 st) := x1
      have y2 : wr.drew.cell? ⟨w.heap.size, 2, none⟩ = some (.int .i64 size) := x2
      go_still_tail 4, (by kernel_rfl)
      go_wp2_with fail
      refine HWR.out.mono ?_
      rintro e w2 ⟨rfl, hd2, hk2⟩
      have HD2 := Lib.hid hd2
      have hk2' := HKD.out w2 hk2
      have HB2 := Lib.hid (HB.out.trans hk2')
      clear hd2 hk2 hk2'
      go_wp2
      go_ret
      exact ⟨by rw [← HE.out]; rfl, by rw [← HE.out]; exact HD2.out, HB2.out⟩

/-- what record answers -/
def RecPost (w : World) (o : Option Dk.Bs) (e : Ending) (w' : World) : Prop :=
  (∃ r p, o = some r ∧ e = .returned (.tuple #[.slice (some ⟨p, 0, none⟩) r.length r.length, .bool true]) ∧ w.heap.size ≤ p ∧ Blk w' p r ∧ Below w.heap.size w w') ∨
  (o = none ∧ ∃ v, e = .returned (.tuple #[v, .bool false]) ∧ Below w.heap.size w w')

theorem own_of_blk {w : World} {base p : Nat} {l : Dk.Bs} (h : Blk w p l) (hb : base ≤ p) (hl : l.length ≤ maxLen) : w.ownsRow base 5 1 (.slice (some ⟨p, 0, none⟩) l.length l.length) l.length (l.map bv) :=
  ⟨by simp, .inr ⟨p, l.length, (l.map bv).toArray, rfl, hb, h, Nat.le_refl _, hl, by simp, by rw [Nat.mul_one, List.take_of_length_le (by simp)]⟩⟩

theorem recAt_far {b : Dk.Bs} {s size g a p : Nat} (h : size ≤ a) : Lg.recAt b s size g a p = none := by unfold Lg.recAt; rw [if_pos h]
theorem recAt_long {b : Dk.Bs} {s size g a p : Nat} (h1 : ¬ size ≤ a) (h : 200 < Lg.num ((Dk.sec b (s + a)).take 2)) : Lg.recAt b s size g a p = none := by unfold Lg.recAt; rw [if_neg h1, if_pos h]
theorem recAt_out {b : Dk.Bs} {s size g a p : Nat} (h1 : ¬ size ≤ a) (h2 : ¬ 200 < Lg.num ((Dk.sec b (s + a)).take 2)) (h : size < a + Lg.secs (Lg.num ((Dk.sec b (s + a)).take 2))) : Lg.recAt b s size g a p = none := by unfold Lg.recAt; rw [if_neg h1, if_neg h2, if_pos h]
theorem recAt_yes {b : Dk.Bs} {s size g a p x : Nat} (h1 : ¬ size ≤ a) (hx : Lg.num ((Dk.sec b (s + a)).take 2) = x) (h2 : ¬ 200 < x) (h3 : ¬ size < a + Lg.secs x) (h : Lg.cut b (s + a) (Lg.secs x) = Lg.recd (Lg.own (Lg.cut b (s + a) (Lg.secs x)) x) g p) : Lg.recAt b s size g a p = some (Lg.own (Lg.cut b (s + a) (Lg.secs x)) x) := by
  subst hx; unfold Lg.recAt; rw [if_neg h1, if_neg h2, if_neg h3, if_pos h]
theorem recAt_no {b : Dk.Bs} {s size g a p x : Nat} (h1 : ¬ size ≤ a) (hx : Lg.num ((Dk.sec b (s + a)).take 2) = x) (h2 : ¬ 200 < x) (h3 : ¬ size < a + Lg.secs x) (h : ¬ Lg.cut b (s + a) (Lg.secs x) = Lg.recd (Lg.own (Lg.cut b (s + a) (Lg.secs x)) x) g p) : Lg.recAt b s size g a p = none := by
  subst hx; unfold Lg.recAt; rw [if_neg h1, if_neg h2, if_neg h3, if_neg h]

set_option maxHeartbeats 4000000 in
set_option maxRecDepth 100000 in
theorem record_any (g s n st size a gg pl : Nat) (d : Dk.D) (w : World) (h : DiskAt w g s n d) (hs : st + size ≤ n) (ha : a ≤ size) (hgg : gg < 4294967296) (hpl : pl < 4294967296) :
    Calls Try.prog 63 #[.agg #[.pointer (some ⟨g, 0, none⟩), .int .i64 st, .int .i64 size], .int .i64 a, .int .i64 gg, .int .i64 pl] w fun e w' => RecPost w (Lg.recAt d.b st size gg a pl) e w' := by
  have hn1 := h.n1
  have hk0 : Kept No w (w.alloc (.cells #[.pointer (some ⟨g, 0, none⟩), .int .i64 st, .int .i64 size] 65)) := (Kept.refl _ _).alloc _
  have HX := Lib.hid (BoxAt.new w g st size)
  have HK0 := Lib.hid hk0
  have H := Lib.hid h
  have HGL : Hid (g < w.heap.size) := h.ltg
  have x0 := (BoxAt.new w g st size).c0
  have x1 := (BoxAt.new w g st size).c1
  have x2 := (BoxAt.new w g st size).c2
  have HBE : Hid (∀ W, Kept No w W → Below w.heap.size w W) := fun W hk => hk.below (Below.refl _ _) (Nat.le_refl _) (fun _ _ => id)
  clear hk0
  by_cases hfar : size ≤ a
  · have HE := Lib.hid (recAt_far (b := d.b) (s := st) (g := gg) (p := pl) hfar)
    have d1 : decide ((size : Int) ≤ (a : Int)) = true := decide_eq_true (by omega)
    have d2 : decide (size ≤ a) = true := decide_eq_true hfar
    clear h
    generalize Lg.recAt d.b st size gg a pl = O at *
    go_enter Try.func63, Try.ntmps63
    go_wp2
    go_ret2
    exact .inr ⟨HE.out, _, rfl, HBE.out _ HK0.out⟩
  have d1 : decide ((size : Int) ≤ (a : Int)) = false := decide_eq_false (by omega)
  have d2 : decide (size ≤ a) = false := decide_eq_false hfar
  have HR := Lib.hid (hread_any g s n st size a d _ (h.alloc (.cells #[.pointer (some ⟨g, 0, none⟩), .int .i64 st, .int .i64 size] 65)) (by omega))
  have HLS := Lib.hid (Dk.sec_len h.good.len (show st + a < n by omega))
  have H1 := Lib.hid (recAt_long (b := d.b) (s := st) (g := gg) (p := pl) hfar)
  have H2 := Lib.hid (recAt_out (b := d.b) (s := st) (g := gg) (p := pl) hfar)
  have H3 := Lib.hid (fun x => recAt_yes (b := d.b) (s := st) (g := gg) (p := pl) (x := x) hfar)
  have H4 := Lib.hid (fun x => recAt_no (b := d.b) (s := st) (g := gg) (p := pl) (x := x) hfar)
  have HCL : Hid (∀ k, st + a + k ≤ n → (Lg.cut d.b (st + a) k).length = 32 * k) := fun k hk => Lg.cut_len h.good.len hk
  clear h
  generalize Lg.recAt d.b st size gg a pl = O at *
  go_enter Try.func63, Try.ntmps63
  go_wp2_with fail
  refine HR.out.mono ?_
  rintro e w1 ⟨rfl, hb1, hbel1⟩
  have HB1 := Lib.hid hb1
  have HX1 := Lib.hid (HX.out.below hbel1)
  have HK1 := Lib.hid (HK0.out.trans (Kept.of_below hbel1))
  have HP : Hid (w.heap.size < w.heap.size + 1 + 1) := by unfold Hid; omega
  rw [show (w.alloc (.cells #[.pointer (some ⟨g, 0, none⟩), .int .i64 (st : Int), .int .i64 (size : Int)] 65)).heap.size = w.heap.size + 1 by simp] at HB1 ⊢
  clear hb1 hbel1 HR HX HK0 x0 x1 x2
  obtain ⟨p1, hp1⟩ : ∃ p1, w.heap.size + 1 + 1 = p1 := ⟨_, rfl⟩
  rw [hp1] at HP HB1 ⊢
  clear hp1
  have HNU := Lib.hid (number_any No (some ⟨p1, 0, none⟩) 2 32 ((Dk.sec d.b (st + a)).take 2) w1 (by rw [List.length_take, HLS.out]; rfl) (by omega) (bytes_take (HB1.out.bytes id) 2))
  have HXL : Hid (Lg.num ((Dk.sec d.b (st + a)).take 2) < 65536) := by
    have h1 := Lg.num_lt ((Dk.sec d.b (st + a)).take 2)
    rw [List.length_take, HLS.out] at h1
    exact h1
  obtain ⟨x, hx⟩ : ∃ x, Lg.num ((Dk.sec d.b (st + a)).take 2) = x := ⟨_, rfl⟩
  rw [hx] at HNU HXL H1 H2
  have HXX := Lib.hid hx
  have hxl := HXL.out
  clear hx HXL
  have z0 := HX1.out.c0
  have z1 := HX1.out.c1
  have z2 := HX1.out.c2
  by_cases hlong : 200 < x
  · have HE := Lib.hid (H1.out hlong)
    have d3 : decide ((200 : Int) < (x : Int)) = true := decide_eq_true (by omega)
    clear H1 H2 H3 H4
    go_wp2_with (go_at_call 72; refine HNU.out.mono ?_; rintro e w' ⟨rfl, rfl⟩)
    go_quiet (fail)
    go_wp2
    go_ret2
    exact .inr ⟨HE.out, _, rfl, HBE.out _ (HK1.out.drewN _)⟩
  have d3 : decide ((200 : Int) < (x : Int)) = false := decide_eq_false (by omega)
  have hq1 := Lg.secs_pos x
  have hq7 := Lg.secs_le x (by omega)
  have HSQ : Hid (∀ W : World, Calls Try.prog 42 #[.int .i64 x] W fun e w' => e = .returned (.int .i64 (Lg.secs x : Nat)) ∧ W = w') := fun W => sectorsOf_any x W (by omega)
  have HQS : Hid (∀ k : Nat, Calls Try.prog 42 #[.int .i64 x] (w1.drewN k) fun e w' => e = .returned (.int .i64 (Lg.secs x : Nat)) ∧ ∃ m, w' = w1.drewN m) := fun k => (HSQ.out _).mono fun _ _ ⟨e1, e2⟩ => ⟨e1, k, e2.symm⟩
  by_cases hout : size < a + Lg.secs x
  · have HE := Lib.hid (H2.out hlong hout)
    have d4 : decide ((size : Int) < (a : Int) + (Lg.secs x : Int)) = true := decide_eq_true (by omega)
    have hw4 : IntKind.i64.wrap ((a : Int) + (Lg.secs x : Int)) = (a : Int) + (Lg.secs x : Int) := by rw [IntKind.wrap_i64]; omega
    clear H1 H2 H3 H4
    go_wp2_with (go_at_call 72; refine HNU.out.mono ?_; rintro e w' ⟨rfl, rfl⟩)
    go_quiet ((go_at_call 42; exact HQS.out _))
    go_wp2
    go_ret2
    exact .inr ⟨HE.out, _, rfl, HBE.out _ (HK1.out.drewN _)⟩
  have d4 : decide ((size : Int) < (a : Int) + (Lg.secs x : Int)) = false := decide_eq_false (by omega)
  have hw4 : IntKind.i64.wrap ((a : Int) + (Lg.secs x : Int)) = (a : Int) + (Lg.secs x : Int) := by rw [IntKind.wrap_i64]; omega
  have H3' := Lib.hid (H3.out x HXX.out hlong hout)
  have H4' := Lib.hid (H4.out x HXX.out hlong hout)
  clear H1 H2 H3 H4 HXX
  obtain ⟨q, hq⟩ : ∃ q, Lg.secs x = q := ⟨_, rfl⟩
  rw [hq] at d4 hw4 H3' H4' hq1 hq7 HSQ HQS hout
  have HQ := Lib.hid hq
  clear hq
  go_wp2_with (go_at_call 72; refine HNU.out.mono ?_; rintro e w' ⟨rfl, rfl⟩)
  go_quiet ((go_at_call 42; exact HQS.out _))
  go_wp2
  have HO1 : Hid (∀ k, (w1.drewN k).ownsRow w.heap.size 5 1 (.slice (some ⟨p1, 0, none⟩) 32 32) (32 * 1) ((Lg.cut d.b (st + a) 1).map bv)) := fun k => by
    have := own_of_blk (w := w1.drewN k) (base := w.heap.size) (p := p1) (l := Dk.sec d.b (st + a)) HB1.out (Nat.le_of_lt HP.out) (by rw [HLS.out]; decide)
    rw [HLS.out] at this
    exact this
  go_loopg [10, 12] q (fun gk s10 s12 W => ∃ (i : Nat), 1 ≤ i ∧ i ≤ q ∧ i + gk = q + 1 ∧ s12 = .int .i64 i ∧ Hid (W.ownsRow w.heap.size 5 1 s10 (32 * i) ((Lg.cut d.b (st + a) i).map bv)) ∧ Hid (BoxAt W w.heap.size g st size) ∧ Hid (Kept No w W))
  case atStart => exact ⟨1, by omega, by omega, by omega, rfl, HO1.out _, HX1.out, HK1.out.drewN _⟩
  case round =>
    clear HO1 HX1 HK1 z0 z1 z2 HB1 HQS HNU
    obtain ⟨i, h1, h2, h3, rfl, HO, HX, HK⟩ := hrel
    have x0 := HX.out.c0
    have x1 := HX.out.c1
    have x2 := HX.out.c2
    by_cases hlt : i < q
    · obtain ⟨gk, rfl⟩ : ∃ j, gk = j + 1 := ⟨gk - 1, by omega⟩
      have e1 : decide ((i : Int) < (q : Int)) = true := decide_eq_true (by omega)
      have e2 : decide (i < q) = true := decide_eq_true hlt
      have HRD := hread_any g s n st size (a + i) d wr (H.out.keep HK.out id id) (by omega)
      rw [← Nat.add_assoc, show ((a + i : Nat) : Int) = (a : Int) + (i : Int) by omega] at HRD
      have HRD := Lib.hid HRD
      have HSL := Lib.hid (Dk.sec_len H.out.good.len (show st + a + i < n by omega))
      have HCS := Lib.hid (Lg.cut_succ d.b (st + a) i)
      have hlong' := hlong
      clear hlong hout
      go_wp2_with (go_at_call 42; refine (HSQ.out _).mono ?_; rintro e w' ⟨rfl, rfl⟩)
      refine HRD.out.mono ?_
      rintro e w2 ⟨rfl, hb2, hbel2⟩
      have hown := own_keep HO.out (Kept.of_below (F := No) hbel2) (fun _ _ => id)
      have HOW := Lib.hid hown
      have HX2 := Lib.hid (HX.out.below hbel2)
      have HK2 := Lib.hid (HK.out.trans (Kept.of_below hbel2))
      have HA := Lib.hid (run_append_bytes No w2 w.heap.size 38 u10 (32 * i) _ hown (some ⟨wr.heap.size + 1, 0, none⟩) 32 32 (Dk.sec d.b (st + a + i)) HSL.out (hb2.bytes id) (by omega) HK2.out.size)
      clear hb2 hbel2 hown
      go_wp2_with (at_builtin; refine wpList_append_any rfl (.tmp 41) (.tmp 46) 38 38 rfl _ _ rfl rfl _ HA.out ?_; intro v3 w3 hap; have HAP := Lib.hid hap; clear hap)
      go_roundg gk
      case measure => omega
      case rel =>
        refine ⟨i + 1, by omega, by omega, by omega, by first | rfl | go_num, ?_, ?_, kept_grown HK2.out HOW.out HAP.out.2 (Nat.le_refl _)⟩
        · rw [HCS.out, List.map_append]; exact HAP.out.1
        · exact (HAP.out.2.block _ HX2.out.lt (own_ne HOW.out HX2.out (by decide))).trans HX2.out
    · obtain rfl : i = q := by omega
      have e1 : decide ((i : Int) < (i : Int)) = false := decide_eq_false (by omega)
      have e2 : decide (i < i) = false := decide_eq_false (by omega)
      obtain ⟨A, c, rfl, hnc, hcm, hcl, _⟩ := ownsRow_slice HO.out
      have hcb : BytesIn No wr A (Lg.cut d.b (st + a) i) := hcl No (fun _ => False.elim)
      have hcut := HCL.out i (by omega)
      have HBO := Lib.hid (bytesOf_any A (32 * i) c x (Lg.cut d.b (st + a) i) wr hcut (by rw [HQ.out]) hnc (by omega) hcb)
      have HOL := Lib.hid (Lg.own_len (Lg.cut d.b (st + a) i) x (by rw [hcut, HQ.out]))
      have HCB := Lib.hid hcb
      have HCUT := Lib.hid hcut
      have hx2 : x ≤ 200 := by omega
      clear hcl hcb hcut HO hnc hcm
      go_wp2_with (go_at_call 42; refine (HSQ.out _).mono ?_; rintro e w' ⟨rfl, rfl⟩)
      refine HBO.out.mono ?_
      rintro e w2 ⟨rfl, hb2, hbel2⟩
      have HB2 := Lib.hid hb2
      have HBE2 := Lib.hid hbel2
      have HRO := Lib.hid (recordOf_any (some ⟨wr.heap.size, 0, none⟩) x x gg pl (Lg.own (Lg.cut d.b (st + a) i) x) w2 HOL.out (Nat.le_refl _) hx2 hgg hpl (hb2.bytes id))
      clear hb2 hbel2 HBO
      go_wp2_with fail
      refine HRO.out.mono ?_
      rintro e w3 ⟨rfl, hb3, hbel3⟩
      have HB3 := Lib.hid hb3
      have HB23 := Lib.hid (blk_below HB2.out hbel3)
      have hby := bytes_keep (bytes_keep HCB.out HBE2.out) hbel3
      have HBL : Hid (Below w.heap.size w w3) := HBE.out _ ((HK.out.trans (Kept.of_below HBE2.out)).trans (Kept.of_below hbel3))
      have HEQ := equal_any No A (some ⟨w2.heap.size, 0, none⟩) (32 * i) (32 * Lg.secs x) c (32 * Lg.secs x) (Lg.cut d.b (st + a) i) (Lg.recd (Lg.own (Lg.cut d.b (st + a) i) x) gg pl) w3 HCUT.out (by rw [Lg.recd_len, HOL.out]) hby (hb3.bytes id)
      have HPL : Hid (w.heap.size ≤ wr.heap.size) := HK.out.size
      clear hb3 hbel3 HRO hby
      by_cases hsame : Lg.cut d.b (st + a) i = Lg.recd (Lg.own (Lg.cut d.b (st + a) i) x) gg pl
      · rw [decide_eq_true hsame] at HEQ
        have HEQ := Lib.hid HEQ
        have HE := Lib.hid (H3'.out hsame)
        clear hsame H3' H4'
        go_wp2_with fail
        refine HEQ.out.mono ?_
        rintro e w' ⟨rfl, rfl⟩
        go_wp2
        go_ret2
        refine .inl ⟨_, wr.heap.size, HE.out, ?_, HPL.out, HB23.out, HBL.out⟩
        rw [HOL.out]
        rfl
      · rw [decide_eq_false hsame] at HEQ
        have HEQ := Lib.hid HEQ
        have HE := Lib.hid (H4'.out hsame)
        clear hsame H3' H4'
        go_wp2_with fail
        refine HEQ.out.mono ?_
        rintro e w' ⟨rfl, rfl⟩
        go_wp2
        go_ret2
        exact .inr ⟨HE.out, _, rfl, HBL.out⟩

end Go.Proofs.Ytoocifoglhhnmaa
