/- Contracts of package log: a row of records; a half's fill; endOf, copyOf, ContainsFunc. -/
import Derived.Test.YtoocifoglhhnmaaLogLay
namespace Go.Proofs.Ytoocifoglhhnmaa
open Go.RowKit
set_option linter.unusedVariables false

/-- a slice of bytes -/
def SlIn (F : Nat → Prop) (w : World) (v : Value) (r : Dk.Bs) : Prop := ∃ B c, v = .slice B r.length c ∧ r.length ≤ c ∧ c ≤ maxLen ∧ BytesIn F w B r
/-- a row of slices of bytes -/
def RowIn (F : Nat → Prop) (w : World) (A : Option Addr) (rs : List Dk.Bs) : Prop :=
  ∀ (k : Nat) (r : Dk.Bs), rs[k]? = some r → ∃ ad v, A = some ad ∧ ad.block < w.heap.size ∧ ¬ F ad.block ∧ w.cell? (ad.add k) = some v ∧ SlIn F w v r
theorem SlIn.keep {F : Nat → Prop} {w w' : World} {v : Value} {r : Dk.Bs} (h : SlIn F w v r) (hk : Kept F w w') : SlIn F w' v r := by
  obtain ⟨B, c, e, h1, h2, h3⟩ := h
  exact ⟨B, c, e, h1, h2, CellsIn.keep h3 hk⟩
theorem SlIn.less {F G : Nat → Prop} {w : World} {v : Value} {r : Dk.Bs} (h : SlIn F w v r) (hFG : ∀ i, i < w.heap.size → G i → F i) : SlIn G w v r := by
  obtain ⟨B, c, e, h1, h2, h3⟩ := h
  exact ⟨B, c, e, h1, h2, CellsIn.less h3 hFG⟩
theorem RowIn.keep {F : Nat → Prop} {w w' : World} {A : Option Addr} {rs : List Dk.Bs} (h : RowIn F w A rs) (hk : Kept F w w') : RowIn F w' A rs := by
  intro k r hr
  obtain ⟨ad, v, e, h1, h2, h3, h4⟩ := h k r hr
  exact ⟨ad, v, e, Nat.lt_of_lt_of_le h1 hk.size, h2, (hk.cell (by rw [block_add]; exact h1) (by rw [block_add]; exact h2)).trans h3, h4.keep hk⟩
theorem RowIn.less {F G : Nat → Prop} {w : World} {A : Option Addr} {rs : List Dk.Bs} (h : RowIn F w A rs) (hFG : ∀ i, i < w.heap.size → G i → F i) : RowIn G w A rs := by
  intro k r hr
  obtain ⟨ad, v, e, h1, h2, h3, h4⟩ := h k r hr
  exact ⟨ad, v, e, h1, fun hg => h2 (hFG _ h1 hg), h3, h4.less hFG⟩
theorem RowIn.nil (F : Nat → Prop) (w : World) (A : Option Addr) : RowIn F w A [] := by intro k r hr; simp at hr

theorem drop_at {α : Type} {l : List α} {k : Nat} {x : α} (h : l[k]? = some x) : l.drop k = x :: l.drop (k + 1) := by
  obtain ⟨hk, rfl⟩ := List.getElem?_eq_some_iff.1 h
  exact List.drop_eq_getElem_cons hk

set_option maxHeartbeats 1000000 in
set_option maxRecDepth 100000 in
theorem endOf_any (F : Nat → Prop) (A : Option Addr) (m c : Nat) (rs : List Dk.Bs) (w : World) (hm : rs.length = m) (hm2 : m ≤ 100000) (hl : ∀ r ∈ rs, r.length ≤ 200) (hb : RowIn F w A rs) :
    Calls Try.prog 50 #[.slice A m c] w fun e w' => e = .returned (.int .i64 (1 + Lg.sumSecs rs : Nat)) ∧ w = w' := by
  have HB := Lib.hid hb
  have HM := Lib.hid hm
  have HL := Lib.hid hl
  have HS : Hid (∀ k, Lg.sumSecs (rs.drop k) ≤ 7 * (m - k)) := by
    intro k
    have : ∀ l : List Dk.Bs, (∀ r ∈ l, r.length ≤ 200) → Lg.sumSecs l ≤ 7 * l.length := by
      intro l hl
      induction l with
      | nil => simp [Lg.sumSecs]
      | cons r l ih =>
        have h1 := Lg.secs_le r.length (hl r (by simp))
        have h2 := ih (fun r hr => hl r (by simp [hr]))
        simp [Lg.sumSecs]
        omega
    have h1 := this (rs.drop k) (fun r hr => hl r (List.mem_of_mem_drop hr))
    rw [List.length_drop, hm] at h1
    exact h1
  clear hb hm hl
  have HT : Hid (Lg.sumSecs rs = Lg.sumSecs (rs.drop 0)) := rfl
  generalize Lg.sumSecs rs = T at *
  have hT : T ≤ 7 * m := by have := HS.out 0; have := HT.out; omega
  go_enter Try.func50, Try.ntmps50
  go_wp2
  go_loopg [3, 8] m (fun gk s3 s8 W => ∃ (k t : Nat), k + gk = m ∧ t ≤ 1 + T ∧ Hid (t + Lg.sumSecs (rs.drop k) = 1 + T) ∧ s3 = .int .i64 t ∧ s8 = .int .i64 k ∧ W = w)
  case atStart => exact ⟨0, 1, by omega, by omega, by have := HT.out; unfold Hid; omega, rfl, rfl, rfl⟩
  case round =>
    obtain ⟨k, t, hkg, ht, HK, rfl, rfl, rfl⟩ := hrel
    cases gk with
    | zero =>
      obtain rfl : k = m := by omega
      have HE : Hid ((t : Int) = ((1 + T : Nat) : Int)) := by
        have := HK.out
        rw [List.drop_eq_nil_of_le (by rw [HM.out]; exact Nat.le_refl _)] at this
        simp [Lg.sumSecs] at this
        unfold Hid; omega
      go_wp2
      go_ret
      exact ⟨by rw [← HE.out]; rfl, rfl⟩
    | succ r =>
      obtain ⟨b, hb⟩ := some_at rs k (by rw [HM.out]; omega)
      obtain ⟨ad, v, rfl, _, _, hc, B, cc, rfl, _, _, _⟩ := HB.out k b hb
      have h200 := HL.out b (List.mem_of_getElem? hb)
      have HD := Lib.hid (drop_at hb)
      have h7 := Lg.secs_le b.length h200
      have HSQ : Hid (∀ W : World, Calls Try.prog 42 #[.int .i64 b.length] W fun e w' => e = .returned (.int .i64 (Lg.secs b.length : Nat)) ∧ W = w') := fun W => sectorsOf_any b.length W (by omega)
      clear hb
      have hK := HK.out
      rw [HD.out] at hK
      simp only [Lg.sumSecs] at hK
      generalize Lg.secs b.length = q at *
      generalize b.length = bl at *
      have HK2 : Hid (t + q + Lg.sumSecs (rs.drop (k + 1)) = 1 + T) := by unfold Hid; omega
      clear hK
      go_wp2_with (go_at_call 42; refine (HSQ.out _).mono ?_; rintro e w' ⟨rfl, rfl⟩)
      go_roundg r
      case measure => omega
      case rel => exact ⟨k + 1, t + q, by omega, by have := HK2.out; omega, HK2.out, by first | rfl | go_num, by first | rfl | go_num, rfl⟩

set_option maxHeartbeats 4000000 in
set_option maxRecDepth 100000 in
theorem fill_any (g s n st size gg : Nat) (d : Dk.D) (A : Option Addr) (m c : Nat) (rs : List Dk.Bs) (w : World) (h : DiskAt w g s n d) (hst : st + size ≤ n) (h1s : 1 ≤ size) (hw : d.writes + (size + Lg.sumSecs rs + 1 : Nat) ≤ 1000000) (hgg : gg < 4294967296)
    (hm : rs.length = m) (hl : ∀ r ∈ rs, r.length ≤ 200) (hfit : 1 + Lg.sumSecs rs ≤ size) (hb : RowIn (Two g s) w A rs) :
    Calls Try.prog 51 #[.agg #[.pointer (some ⟨g, 0, none⟩), .int .i64 st, .int .i64 size], .slice A m c, .int .i64 gg] w fun e w' => e = .returned (.int .i64 (Lg.fillS n st size gg rs d).2) ∧ DiskAt w' g s n (Lg.fillS n st size gg rs d).1 ∧ Kept (Two g s) w w' := by
  have hn1 := h.n1
  have hk0 : Kept (Two g s) w (w.alloc (.cells #[.pointer (some ⟨g, 0, none⟩), .int .i64 st, .int .i64 size] 65)) := (Kept.refl _ _).alloc _
  have HX := Lib.hid (BoxAt.new w g st size)
  have x0 := (BoxAt.new w g st size).c0
  have x1 := (BoxAt.new w g st size).c1
  have x2 := (BoxAt.new w g st size).c2
  have HNT : Hid (¬ Two g s w.heap.size) := by
    have h1 := h.ltg
    have h2 := h.lts
    rintro (e | e) <;> omega
  have hms : m ≤ 4096 := by have := Lg.sumSecs_len rs; omega
  have HWI := Lib.hid (wipe_any g s n st size 0 d _ (h.alloc (.cells #[.pointer (some ⟨g, 0, none⟩), .int .i64 st, .int .i64 size] 65)) hst (by omega) (by omega))
  have HWW := Lib.hid (Lg.wipeS_writes n st 0 size d)
  have HB := Lib.hid hb
  have HM := Lib.hid hm
  have HL := Lib.hid hl
  have HK0 := Lib.hid hk0
  obtain ⟨R, hR⟩ : ∃ R, Lg.fillS n st size gg rs d = R := ⟨_, rfl⟩
  have HE : Hid ((if (Lg.wipeS n st 0 size d).2 = 0 then Lg.fillR n st gg rs 1 0 (Lg.wipeS n st 0 size d).1 else Lg.wipeS n st 0 size d) = R) := hR
  rw [hR]
  clear hR hk0 h hb hm hl
  generalize Lg.wipeS n st 0 size d = q at *
  go_enter Try.func51, Try.ntmps51
  go_wp2_with fail
  refine HWI.out.mono ?_
  rintro e w1 ⟨rfl, hd1, hk1⟩
  have HD1 := Lib.hid hd1
  have HX1 := Lib.hid (HX.out.keep hk1 HNT.out)
  have HK1 := Lib.hid (HK0.out.trans hk1)
  clear hd1 hk1 HX HK0 HWI x0 x1 x2
  by_cases hq : q.2 = 0
  case neg =>
    have HE2 : Hid (q = R) := by have := HE.out; rw [if_neg hq] at this; exact this
    have d3 : (q.2 != 0) = true := bne_iff_ne.2 hq
    clear HE
    go_wp2
    go_ret
    exact ⟨by rw [← HE2.out]; rfl, by rw [← HE2.out]; exact HD1.out, HK1.out⟩
  have HE2 : Hid (Lg.fillR n st gg rs 1 0 q.1 = R) := by have := HE.out; rw [if_pos hq] at this; exact this
  have d3 : (q.2 != 0) = false := by rw [hq]; rfl
  clear HE
  go_wp2
  go_loopg [6, 8, 19] m (fun gk s6 s8 s19 W => ∃ (dc : Dk.D) (k a : Nat), k + gk = m ∧ 1 ≤ a ∧ a + Lg.sumSecs (rs.drop k) ≤ size ∧ s6 = .int .i64 0 ∧ s8 = .int .i64 a ∧ s19 = .int .i64 k ∧ dc.writes + (Lg.sumSecs (rs.drop k) + 1 : Nat) ≤ 1000000 ∧ Hid (Lg.fillR n st gg (rs.drop k) a k dc = R) ∧ Hid (DiskAt W g s n dc) ∧ Hid (BoxAt W w.heap.size g st size) ∧ Hid (Kept (Two g s) w W))
  case atStart => exact ⟨q.1, 0, 1, by omega, by omega, by rw [List.drop_zero]; exact hfit, rfl, rfl, rfl, by rw [List.drop_zero]; have := HWW.out; omega, HE2.out, HD1.out, HX1.out, HK1.out⟩
  case round =>
    clear HE2 HD1 HX1 HK1 HWW
    obtain ⟨dc, k, a, hkg, ha1, ha2, rfl, rfl, rfl, hwc, HE, HD, HX, HK⟩ := hrel
    have x0 := HX.out.c0
    have x1 := HX.out.c1
    have x2 := HX.out.c2
    cases gk with
    | zero =>
      obtain rfl : k = m := by omega
      have HE2 : Hid (Lg.wr n dc st (Lg.head gg) = R) := by
        have := HE.out
        rw [List.drop_eq_nil_of_le (by rw [HM.out]; exact Nat.le_refl _)] at this
        exact this
      have hwc' : dc.writes ≤ 1000000 := by omega
      have HHO : Hid (Calls Try.prog 61 #[.int .i64 gg] wr.drew fun e w' => e = .returned (.slice (some ⟨wr.heap.size, 0, none⟩) 32 32) ∧ (w'.cell? ⟨w.heap.size, 0, none⟩ = some (.pointer (some ⟨g, 0, none⟩)) ∧ w'.cell? ⟨w.heap.size, 1, none⟩ = some (.int .i64 st) ∧ w'.cell? ⟨w.heap.size, 2, none⟩ = some (.int .i64 size)) ∧
          Hid (Blk w' wr.heap.size (Lg.head gg)) ∧ Hid (DiskAt w' g s n dc) ∧ Hid (Kept (Two g s) w w') ∧ Hid (BoxAt w' w.heap.size g st size)) := by
        refine (headOf_any gg wr.drew hgg).mono fun _ w' ⟨e1, e2, e3⟩ => ?_
        have hx := BoxAt.below (w := wr.drew) HX.out e3
        exact ⟨e1, ⟨hx.c0, hx.c1, hx.c2⟩, e2, HD.out.drew.below e3, HK.out.drew.trans (Kept.of_below e3), hx⟩
      have HNB : Hid (¬ Two g s wr.heap.size) := by
        have h1 := HD.out.ltg
        have h2 := HD.out.lts
        rintro (e | e) <;> omega
      have HWR : Hid (∀ w2, Hid (Blk w2 wr.heap.size (Lg.head gg)) → Hid (DiskAt w2 g s n dc) → Hid (Kept (Two g s) w w2) → Hid (BoxAt w2 w.heap.size g st size) → Calls Try.prog 60 #[.agg #[.pointer (some ⟨g, 0, none⟩), .int .i64 st, .int .i64 size], .int .i64 0, .slice (some ⟨wr.heap.size, 0, none⟩) 32 32] w2 fun e w' => e = .returned (.int .i64 R.2) ∧ (w'.cell? ⟨w.heap.size, 0, none⟩ = some (.pointer (some ⟨g, 0, none⟩)) ∧ w'.cell? ⟨w.heap.size, 1, none⟩ = some (.int .i64 st) ∧ w'.cell? ⟨w.heap.size, 2, none⟩ = some (.int .i64 size)) ∧ Hid (DiskAt w' g s n R.1 ∧ Kept (Two g s) w w')) := fun w2 h1 h2 h3 h4 => by
        refine (hwrite_any g s n st size 0 dc (some ⟨wr.heap.size, 0, none⟩) 32 32 (Lg.head gg) w2 h2.out (by omega) hwc' (Lg.head_len gg) (by omega) (h1.out.bytes HNB.out)).mono fun _ w' ⟨e1, e2, e3⟩ => ?_
        rw [Nat.add_zero, HE2.out] at e1 e2
        have hx := h4.out.keep e3 HNT.out
        exact ⟨e1, ⟨hx.c0, hx.c1, hx.c2⟩, e2, h3.out.trans e3⟩
      go_wp2_with fail
      go_region_held3 (fun W => W.cell? ⟨w.heap.size, 0, none⟩ = some (.pointer (some ⟨g, 0, none⟩)) ∧ W.cell? ⟨w.heap.size, 1, none⟩ = some (.int .i64 st) ∧ W.cell? ⟨w.heap.size, 2, none⟩ = some (.int .i64 size))
        (first | exact hs3 | exact hs2 | exact ⟨x0, x1, x2⟩)
        (first
          | (go_at_call 60; refine (HWR.out _ hb2 hd2 hk2 hx2).mono ?_; rintro e w3 ⟨rfl, hs3, hr3⟩)
          | (go_at_call 61; refine HHO.out.mono ?_; rintro e w2 ⟨rfl, hs2, hb2, hd2, hk2, hx2⟩))
      go_wp2
      go_ret
      exact ⟨rfl, hr3.out.1, hr3.out.2⟩
    | succ r =>
      obtain ⟨b, hb⟩ := some_at rs k (by rw [HM.out]; omega)
      obtain ⟨ad, v, rfl, _, _, hc, B, cc, rfl, hcc, _, hby⟩ := (HB.out.keep HK.out) k b hb
      have h200 := HL.out b (List.mem_of_getElem? hb)
      have HDR := Lib.hid (drop_at hb)
      have h7 := Lg.secs_le b.length h200
      have hq1 := Lg.secs_pos b.length
      have HSQ : Hid (∀ W : World, Calls Try.prog 42 #[.int .i64 b.length] W fun e w' => e = .returned (.int .i64 (Lg.secs b.length : Nat)) ∧ W = w') := fun W => sectorsOf_any b.length W (by omega)
      have HE2 : Hid ((if (Lg.layS n (st + a) (Lg.recd b gg k) (Lg.secs b.length - 1) 1 dc).2 = 0 then Lg.fillR n st gg (rs.drop (k + 1)) (a + Lg.secs b.length) (k + 1) (Lg.layS n (st + a) (Lg.recd b gg k) (Lg.secs b.length - 1) 1 dc).1 else Lg.layS n (st + a) (Lg.recd b gg k) (Lg.secs b.length - 1) 1 dc) = R) := by
        have := HE.out
        rw [HDR.out] at this
        exact this
      rw [HDR.out] at ha2 hwc
      simp only [Lg.sumSecs] at ha2 hwc
      have HLW := Lib.hid (Lg.layS_writes n (st + a) (Lg.recd b gg k) (Lg.secs b.length - 1) 1 dc)
      have HNB : Hid (¬ Two g s wr.heap.size) := by
        have h1 := HD.out.ltg
        have h2 := HD.out.lts
        rintro (e | e) <;> omega
      have HRO : Hid (Calls Try.prog 44 #[.slice B b.length cc, .int .i64 gg, .int .i64 k] wr.drew fun e w' => e = .returned (.slice (some ⟨wr.heap.size, 0, none⟩) (32 * Lg.secs b.length) (32 * Lg.secs b.length)) ∧ (w'.cell? ⟨w.heap.size, 0, none⟩ = some (.pointer (some ⟨g, 0, none⟩)) ∧ w'.cell? ⟨w.heap.size, 1, none⟩ = some (.int .i64 st) ∧ w'.cell? ⟨w.heap.size, 2, none⟩ = some (.int .i64 size)) ∧
          Hid (Blk w' wr.heap.size (Lg.recd b gg k)) ∧ Hid (DiskAt w' g s n dc) ∧ Hid (Kept (Two g s) w w') ∧ Hid (BoxAt w' w.heap.size g st size)) := by
        refine (recordOf_any B b.length cc gg k b wr.drew rfl hcc h200 hgg (by omega) (bytes_no hby)).mono fun _ w' ⟨e1, e2, e3⟩ => ?_
        have hx := BoxAt.below (w := wr.drew) HX.out e3
        exact ⟨e1, ⟨hx.c0, hx.c1, hx.c2⟩, e2, HD.out.drew.below e3, HK.out.drew.trans (Kept.of_below e3), hx⟩
      have HLA : Hid (∀ w2, Hid (Blk w2 wr.heap.size (Lg.recd b gg k)) → Hid (DiskAt w2 g s n dc) → Hid (Kept (Two g s) w w2) → Hid (BoxAt w2 w.heap.size g st size) → Calls Try.prog 43 #[.agg #[.pointer (some ⟨g, 0, none⟩), .int .i64 st, .int .i64 size], .int .i64 a, .slice (some ⟨wr.heap.size, 0, none⟩) (32 * Lg.secs b.length) (32 * Lg.secs b.length)] w2 fun e w' => e = .returned (.int .i64 (Lg.layS n (st + a) (Lg.recd b gg k) (Lg.secs b.length - 1) 1 dc).2) ∧ (w'.cell? ⟨w.heap.size, 0, none⟩ = some (.pointer (some ⟨g, 0, none⟩)) ∧ w'.cell? ⟨w.heap.size, 1, none⟩ = some (.int .i64 st) ∧ w'.cell? ⟨w.heap.size, 2, none⟩ = some (.int .i64 size)) ∧ Hid (DiskAt w' g s n (Lg.layS n (st + a) (Lg.recd b gg k) (Lg.secs b.length - 1) 1 dc).1 ∧ Kept (Two g s) w w' ∧ BoxAt w' w.heap.size g st size)) := fun w2 h1 h2 h3 h4 => by
        refine (hlay_any g s n st size a (Lg.secs b.length) dc (some ⟨wr.heap.size, 0, none⟩) (32 * Lg.secs b.length) (32 * Lg.secs b.length) (Lg.recd b gg k) w2 h2.out hq1 (by omega) (by omega) (Lg.recd_len _ _ _) rfl (Nat.le_refl _) (h1.out.bytes HNB.out)).mono fun _ w' ⟨e1, e2, e3⟩ => ?_
        have hx := h4.out.keep e3 HNT.out
        exact ⟨e1, ⟨hx.c0, hx.c1, hx.c2⟩, e2, h3.out.trans e3, hx⟩
      clear hb hby HE hcc
      generalize Lg.layS n (st + a) (Lg.recd b gg k) (Lg.secs b.length - 1) 1 dc = z at *
      generalize Lg.recd b gg k = rb at *
      generalize Lg.secs b.length = sq at *
      generalize b.length = bl at *
      go_wp2_with fail
      go_region_held3 (fun W => W.cell? ⟨w.heap.size, 0, none⟩ = some (.pointer (some ⟨g, 0, none⟩)) ∧ W.cell? ⟨w.heap.size, 1, none⟩ = some (.int .i64 st) ∧ W.cell? ⟨w.heap.size, 2, none⟩ = some (.int .i64 size))
        (first | exact hs3 | exact hs2 | exact ⟨x0, x1, x2⟩)
        (first
          | (go_at_call 43; refine (HLA.out _ hb2 hd2 hk2 hx2).mono ?_; rintro e w3 ⟨rfl, hs3, hr3⟩)
          | (go_at_call 44; refine HRO.out.mono ?_; rintro e w2 ⟨rfl, hs2, hb2, hd2, hk2, hx2⟩))
      clear hs2 hs3 hb2 hd2 hk2 hx2 HRO HLA
      by_cases hz : z.2 = 0
      · have HE3 : Hid (Lg.fillR n st gg (rs.drop (k + 1)) (a + sq) (k + 1) z.1 = R) := by have := HE2.out; rw [if_pos hz] at this; exact this
        have d4 : (z.2 != 0) = false := by rw [hz]; rfl
        clear HE2
        go_wp2_with (go_at_call 42; refine (HSQ.out _).mono ?_; rintro e w' ⟨rfl, rfl⟩)
        go_roundg r
        case measure => omega
        case rel => exact ⟨z.1, k + 1, a + sq, by omega, by omega, by omega, rfl, by first | rfl | go_num, by first | rfl | go_num, by have := HLW.out; omega, HE3.out, hr3.out.1, hr3.out.2.2, hr3.out.2.1⟩
      · have HE3 : Hid (z = R) := by have := HE2.out; rw [if_neg hz] at this; exact this
        have d4 : (z.2 != 0) = true := bne_iff_ne.2 hz
        clear HE2
        go_wp2
        go_ret
        exact ⟨by rw [← HE3.out]; rfl, by rw [← HE3.out]; exact hr3.out.1, hr3.out.2.1⟩

end Go.Proofs.Ytoocifoglhhnmaa
