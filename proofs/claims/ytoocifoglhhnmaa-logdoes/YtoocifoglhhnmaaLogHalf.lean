/- Contracts of package log: a half: read, write, generation, isNew, wipe, lay. -/
import Derived.Test.YtoocifoglhhnmaaLogRec
namespace Go.Proofs.Ytoocifoglhhnmaa
open Go.RowKit
set_option linter.unusedVariables false

def halfV (g st size : Nat) : Value := .agg #[.pointer (some ⟨g, 0, none⟩), .int .i64 st, .int .i64 size]
def halfC (g st size : Nat) : Array Value := #[.pointer (some ⟨g, 0, none⟩), .int .i64 st, .int .i64 size]

theorem DiskAt.below {w w' : World} {g s n : Nat} {d : Dk.D} (h : DiskAt w g s n d) (hb : Below w.heap.size w w') : DiskAt w' g s n d := h.keep (F := No) (Kept.of_below hb) id id
theorem DiskAt.alloc {w : World} {g s n : Nat} {d : Dk.D} (h : DiskAt w g s n d) (o : Obj) : DiskAt (w.alloc o) g s n d := h.below ((Below.refl _ _).alloc (Nat.le_refl _) o)

set_option maxHeartbeats 1000000 in
set_option maxRecDepth 100000 in
theorem hread_any (g s n st size a : Nat) (d : Dk.D) (w : World) (h : DiskAt w g s n d) (ha : st + a < n) :
    Calls Try.prog 65 #[.agg #[.pointer (some ⟨g, 0, none⟩), .int .i64 st, .int .i64 size], .int .i64 a] w fun e w' => e = .returned (.slice (some ⟨w.heap.size + 1, 0, none⟩) 32 32) ∧ Blk w' (w.heap.size + 1) (Dk.sec d.b (st + a)) ∧ Below w.heap.size w w' := by
  have hn1 := h.n1
  have hr := read_ok g s n d (st + a) (w.alloc (.cells #[.pointer (some ⟨g, 0, none⟩), .int .i64 st, .int .i64 size] 65)) (h.alloc _) ha
  rw [show (w.alloc (.cells #[.pointer (some ⟨g, 0, none⟩), .int .i64 (st : Int), .int .i64 (size : Int)] 65)).heap.size = w.heap.size + 1 by simp, show ((st + a : Nat) : Int) = (st : Int) + (a : Int) by omega] at hr
  have HR := Lib.hid hr
  clear hr h
  go_enter Try.func65, Try.ntmps65
  go_wp2_with (go_at_call 29; refine HR.out.mono ?_; rintro e w1 ⟨rfl, hb, hbel⟩)
  go_ret
  exact ⟨rfl, hb, ((Below.refl _ _).alloc (Nat.le_refl _) _).trans (hbel.mono (by omega))⟩

set_option maxHeartbeats 1000000 in
set_option maxRecDepth 100000 in
theorem hwrite_any (g s n st size a : Nat) (d : Dk.D) (A : Option Addr) (m c : Nat) (l : Dk.Bs) (w : World) (h : DiskAt w g s n d) (ha : st + a < n) (hw : d.writes ≤ 1000000) (hm : l.length = m) (hmx : m ≤ 1000) (hb : BytesIn (Two g s) w A l) :
    Calls Try.prog 60 #[.agg #[.pointer (some ⟨g, 0, none⟩), .int .i64 st, .int .i64 size], .int .i64 a, .slice A m c] w fun e w' => e = .returned (.int .i64 (Lg.wr n d (st + a) l).2) ∧ DiskAt w' g s n (Lg.wr n d (st + a) l).1 ∧ Kept (Two g s) w w' := by
  have hn1 := h.n1
  have hk : Kept (Two g s) w (w.alloc (.cells #[.pointer (some ⟨g, 0, none⟩), .int .i64 st, .int .i64 size] 65)) := (Kept.refl _ _).alloc _
  have hr := write_any g s n d ((st + a : Nat) : Int) A m c l (w.alloc (.cells #[.pointer (some ⟨g, 0, none⟩), .int .i64 st, .int .i64 size] 65)) (h.alloc _) hw hm (by unfold maxLen; omega) (CellsIn.keep hb hk)
  have HR : Hid (Calls Try.prog 74 #[.pointer (some ⟨g, 0, none⟩), .int .i64 ((st : Int) + (a : Int)), .slice A m c] (w.alloc (.cells #[.pointer (some ⟨g, 0, none⟩), .int .i64 st, .int .i64 size] 65)) fun e w' => e = .returned (.int .i64 (Lg.wr n d (st + a) l).2) ∧ DiskAt w' g s n (Lg.wr n d (st + a) l).1 ∧ Kept (Two g s) w w') := by
    rw [show ((st + a : Nat) : Int) = (st : Int) + (a : Int) by omega] at hr
    unfold Lg.wr
    rw [show ((st + a : Nat) : Int) = (st : Int) + (a : Int) by omega]
    exact hr.mono fun _ _ ⟨e1, e2, e3⟩ => ⟨e1, e2, hk.trans e3⟩
  clear hr h hk hb hw
  generalize Lg.wr n d (st + a) l = q at *
  go_enter Try.func60, Try.ntmps60
  go_wp2_with (go_at_call 74; refine HR.out.mono ?_; rintro e w1 ⟨rfl, hb, hbel⟩)
  go_ret
  exact ⟨rfl, hb, hbel⟩

theorem genOf_lo {b : Dk.Bs} {s : Nat} (h : Lg.num ((Dk.sec b s).take 4) < 1) : Lg.genOf b s = 0 := by unfold Lg.genOf; rw [if_pos h]
theorem genOf_hi {b : Dk.Bs} {s : Nat} (h : 2147483647 < Lg.num ((Dk.sec b s).take 4)) : Lg.genOf b s = 0 := by unfold Lg.genOf; rw [if_neg (by omega), if_pos h]
theorem genOf_eq {b : Dk.Bs} {s : Nat} (h1 : ¬ Lg.num ((Dk.sec b s).take 4) < 1) (h2 : ¬ 2147483647 < Lg.num ((Dk.sec b s).take 4)) (h : Dk.sec b s = Lg.head (Lg.num ((Dk.sec b s).take 4))) : Lg.genOf b s = Lg.num ((Dk.sec b s).take 4) := by unfold Lg.genOf; rw [if_neg h1, if_neg h2, if_pos h]
theorem genOf_ne {b : Dk.Bs} {s : Nat} (h1 : ¬ Lg.num ((Dk.sec b s).take 4) < 1) (h2 : ¬ 2147483647 < Lg.num ((Dk.sec b s).take 4)) (h : ¬ Dk.sec b s = Lg.head (Lg.num ((Dk.sec b s).take 4))) : Lg.genOf b s = 0 := by unfold Lg.genOf; rw [if_neg h1, if_neg h2, if_neg h]

theorem box_cells (w : World) (g st size : Nat) : (w.alloc (.cells #[.pointer (some ⟨g, 0, none⟩), .int .i64 st, .int .i64 size] 65)).heap[w.heap.size]? = some (.cells #[.pointer (some ⟨g, 0, none⟩), .int .i64 st, .int .i64 size] 65 (0, 0)) := heap_alloc_new w _

set_option maxHeartbeats 1000000 in
set_option maxRecDepth 100000 in
theorem generation_any (g s n st size : Nat) (d : Dk.D) (w : World) (h : DiskAt w g s n d) (ha : st < n) :
    Calls Try.prog 58 #[.agg #[.pointer (some ⟨g, 0, none⟩), .int .i64 st, .int .i64 size]] w fun e w' => e = .returned (.int .i64 (Lg.genOf d.b st : Nat)) ∧ Below w.heap.size w w' := by
  have hb0 : Below w.heap.size w (w.alloc (.cells #[.pointer (some ⟨g, 0, none⟩), .int .i64 st, .int .i64 size] 65)) := (Below.refl _ _).alloc (Nat.le_refl _) _
  have HR : Hid (Calls Try.prog 65 #[.agg #[.pointer (some ⟨g, 0, none⟩), .int .i64 st, .int .i64 size], .int .i64 0] (w.alloc (.cells #[.pointer (some ⟨g, 0, none⟩), .int .i64 st, .int .i64 size] 65)) fun e w' => ∃ p, e = .returned (.slice (some ⟨p, 0, none⟩) 32 32) ∧ Blk w' p (Dk.sec d.b st) ∧ Below w.heap.size w w') :=
    (hread_any g s n st size 0 d (w.alloc (.cells #[.pointer (some ⟨g, 0, none⟩), .int .i64 st, .int .i64 size] 65)) (h.below hb0) (by omega)).mono fun _ _ ⟨e1, e2, e3⟩ => ⟨_, e1, e2, hb0.trans (e3.mono hb0.size)⟩
  have hlen := Dk.sec_len h.good.len ha
  have H0 : Hid (Lg.num ((Dk.sec d.b st).take 4) < 4294967296) := by
    have h1 := Lg.num_lt ((Dk.sec d.b st).take 4)
    rw [List.length_take, hlen] at h1
    exact h1
  have H1 := Lib.hid (genOf_lo (b := d.b) (s := st))
  have H2 := Lib.hid (genOf_hi (b := d.b) (s := st))
  have H3 := Lib.hid (genOf_eq (b := d.b) (s := st))
  have H4 := Lib.hid (genOf_ne (b := d.b) (s := st))
  have HL := Lib.hid hlen
  have HHL := Lib.hid (Lg.head_len)
  clear h ha hb0 hlen
  generalize Lg.genOf d.b st = G at *
  generalize Dk.sec d.b st = S at *
  go_enter Try.func58, Try.ntmps58
  go_wp2_with fail
  refine HR.out.mono ?_
  rintro e w1 ⟨p, rfl, hb1, hbel1⟩
  have HB1 := Lib.hid hb1
  have HBE1 := Lib.hid hbel1
  clear hb1 hbel1 HR
  go_wp2_with fail
  refine (number_any No _ 4 32 (S.take 4) w1 (by rw [List.length_take, HL.out]; rfl) (by omega) (bytes_take (HB1.out.bytes id) 4)).mono ?_
  rintro e w' ⟨rfl, rfl⟩
  have h0 := H0.out
  generalize Lg.num (S.take 4) = x at *
  by_cases h1 : x < 1
  · have HE := Lib.hid (H1.out h1)
    have d1 : decide ((x : Int) < 1) = true := decide_eq_true (by omega)
    clear H0 H1 H2 H3 H4 h1 h0
    go_wp2
    go_ret
    exact ⟨by rw [HE.out]; rfl, HBE1.out⟩
  have d1 : decide ((x : Int) < 1) = false := decide_eq_false (by omega)
  by_cases h2 : 2147483647 < x
  · have HE := Lib.hid (H2.out h2)
    have d2 : decide ((2147483647 : Int) < (x : Int)) = true := decide_eq_true (by omega)
    clear H0 H1 H2 H3 H4 h1 h2 h0
    go_wp2
    go_ret
    exact ⟨by rw [HE.out]; rfl, HBE1.out⟩
  have d2 : decide ((2147483647 : Int) < (x : Int)) = false := decide_eq_false (by omega)
  have hcase : decide (S = Lg.head x) = true ∧ G = x ∨ decide (S = Lg.head x) = false ∧ G = 0 := by
    by_cases h3 : S = Lg.head x
    · exact .inl ⟨decide_eq_true h3, H3.out h1 h2 h3⟩
    · exact .inr ⟨decide_eq_false h3, H4.out h1 h2 h3⟩
  clear H0 H1 H2 H3 H4 h1 h2
  go_wp2_with fail
  refine (headOf_any x w1 h0).mono ?_
  rintro e w2 ⟨rfl, hb2, hbel2⟩
  have HEQ := Lib.hid (equal_any No (some ⟨p, 0, none⟩) (some ⟨w1.heap.size, 0, none⟩) 32 32 32 32 S (Lg.head x) w2 HL.out (HHL.out x) ((blk_below HB1.out hbel2).bytes id) (hb2.bytes id))
  have HBE2 := Lib.hid (HBE1.out.trans (hbel2.mono HBE1.out.size))
  clear hb2 hbel2
  rcases hcase with ⟨hd, hG⟩ | ⟨hd, hG⟩
  · rw [hd] at HEQ
    have HG := Lib.hid hG
    clear hd hG
    go_wp2_with fail
    refine HEQ.out.mono ?_
    rintro e w' ⟨rfl, rfl⟩
    go_wp2
    go_ret
    exact ⟨by rw [HG.out]; rfl, HBE2.out⟩
  · rw [hd] at HEQ
    have HG := Lib.hid hG
    clear hd hG
    go_wp2_with fail
    refine HEQ.out.mono ?_
    rintro e w' ⟨rfl, rfl⟩
    go_wp2
    go_ret
    exact ⟨by rw [HG.out]; rfl, HBE2.out⟩

end Go.Proofs.Ytoocifoglhhnmaa
