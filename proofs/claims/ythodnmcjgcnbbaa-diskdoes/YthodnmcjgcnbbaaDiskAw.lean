/- What a law on package disk holds while it calls; the laws' own wake-up call returns true. -/
import Derived.Test.YthodnmcjgcnbbaaDiskL
import Derived.Lib.SlBytesConst
namespace Go.Proofs.Ythodnmcjgcnbbaa
open Go.RowKit

/-- The law began in w; its disk, made since, is d now. -/
structure Run (w : World) (g s n : Nat) (W : World) (d : Dk.D) : Prop where
  at_ : DiskAt W g s n d
  bel : Below w.heap.size w W
  hg : w.heap.size ≤ g
  hs : w.heap.size ≤ s

theorem Run.step {w W W' : World} {g s n : Nat} {d d' : Dk.D} (h : Run w g s n W d) (h1 : DiskAt W' g s n d') (hk : Kept (Two g s) W W') : Run w g s n W' d' :=
  ⟨h1, hk.below h.bel h.bel.size (fun i hi e => by
    have h1 := h.hg
    have h2 := h.hs
    rcases e with rfl | rfl <;> omega), h.hg, h.hs⟩
theorem Run.below {w W W' : World} {g s n : Nat} {d : Dk.D} (h : Run w g s n W d) (hb : Below W.heap.size W W') : Run w g s n W' d :=
  ⟨h.at_.keep (F := No) (Kept.of_below hb) id id, h.bel.trans (hb.mono h.bel.size), h.hg, h.hs⟩
theorem Run.alloc {w W : World} {g s n : Nat} {d : Dk.D} (h : Run w g s n W d) (o : Obj) : Run w g s n (W.alloc o) d := h.below ((Below.refl _ _).alloc (Nat.le_refl _) o)
theorem Run.drewN {w W : World} {g s n : Nat} {d : Dk.D} (h : Run w g s n W d) (q : Nat) : Run w g s n (W.drewN q) d := h.below ⟨rfl, rfl, rfl, Nat.le_refl _, fun _ _ => rfl⟩

theorem run_write {w W : World} {g s n : Nat} {d : Dk.D} (h : Run w g s n W d) (k : Int) (A : Option Addr) (m c : Nat) (l : Dk.Bs) (hw : d.writes ≤ 1000000) (hm : l.length = m) (hmx : m ≤ maxLen) (hb : BytesIn (Two g s) W A l) (q : Int) (d' : Dk.D) (hq : Dk.wcode n d k l = q) (hd : Dk.wstate n d k l = d') :
    Calls Try.prog 21 #[.pointer (some ⟨g, 0, none⟩), .int .i64 k, .slice A m c] W fun e w' => e = .returned (.int .i64 q) ∧ Run w g s n w' d' ∧ Kept (Two g s) W w' := by
  subst hq hd
  exact (write_any g s n d k A m c l W h.at_ hw hm hmx hb).mono fun _ _ ⟨he, h1, hk⟩ => ⟨he, h.step h1 hk, hk⟩
theorem run_fuse {w W : World} {g s n : Nat} {d : Dk.D} (h : Run w g s n W d) (a c : Int) (h0 : -9223372036854775808 ≤ a) (h1 : a ≤ 9223372036854775807) (d' : Dk.D) (hd : Dk.fuseTo d a c = d') :
    Calls Try.prog 20 #[.pointer (some ⟨g, 0, none⟩), .int .i64 a, .int .i64 c] W fun e w' => e = .returned (.tuple #[]) ∧ Run w g s n w' d' ∧ Kept (Two g s) W w' := by
  subst hd
  exact (fuse_any g s n d a c W h.at_ h0 h1).mono fun _ _ ⟨he, h1, hk⟩ => ⟨he, h.step h1 hk, hk⟩
theorem run_crash {w W : World} {g s n : Nat} {d : Dk.D} (h : Run w g s n W d) (d' : Dk.D) (hd : Dk.crash d = d') :
    Calls Try.prog 22 #[.pointer (some ⟨g, 0, none⟩)] W fun e w' => e = .returned (.tuple #[]) ∧ Run w g s n w' d' ∧ Kept (Two g s) W w' := by
  subst hd
  exact (crash_any g s n d W h.at_).mono fun _ _ ⟨he, h1, hk⟩ => ⟨he, h.step h1 hk, hk⟩
theorem run_turn {w W : World} {g s n : Nat} {d : Dk.D} (h : Run w g s n W d) (k : Int) (y : UInt8) (hk : k ≤ 9223372036854775807) (q : Int) (d' : Dk.D) (hq : Dk.tcode n k = q) (hd : Dk.tstate n d k y = d') :
    Calls Try.prog 23 #[.pointer (some ⟨g, 0, none⟩), .int .i64 k, .int .u8 (y.toNat : Int)] W fun e w' => e = .returned (.int .i64 q) ∧ Run w g s n w' d' ∧ Kept (Two g s) W w' := by
  subst hq hd
  exact (turn_any g s n d k y W h.at_ hk).mono fun _ _ ⟨he, h1, hk⟩ => ⟨he, h.step h1 hk, hk⟩
theorem run_do {w W : World} {g s n : Nat} {d : Dk.D} (h : Run w g s n W d) (x : Ox) (hw : d.writes ≤ 1000000) (hx : OpOk w.heap.size W x) (q : Int) (d' : Dk.D) (hq : dcode n d x = q) (hd : dstate n d x = d') :
    Calls Try.prog 10 #[.pointer (some ⟨g, 0, none⟩), .agg #[.int .i64 x.o, .int .i64 x.a, .int .i64 x.c, .slice x.A x.m x.cap]] W fun e w' => e = .returned (.int .i64 q) ∧ Run w g s n w' d' ∧ Kept (Two g s) W w' := by
  subst hq hd
  exact (do_any g s n _ d x W h.at_ hw hx h.hg h.hs).mono fun _ _ ⟨he, h1, hk⟩ => ⟨he, h.step h1 hk, hk⟩
theorem run_read {w W : World} {g s n : Nat} {d : Dk.D} (h : Run w g s n W d) (j : Nat) (hj : j < n) :
    Calls Try.prog 15 #[.pointer (some ⟨g, 0, none⟩), .int .i64 j] W fun e w' => e = .returned (.tuple #[.slice (some ⟨W.heap.size, 0, none⟩) 32 32, .int .i64 0]) ∧ BytesIn (Two g s) w' (some ⟨W.heap.size, 0, none⟩) (Dk.sec d.b j) ∧ Run w g s n w' d ∧ Below W.heap.size W w' := by
  refine (read_ok g s n d j W h.at_ hj).mono fun _ w' ⟨he, hrow, hb⟩ => ⟨he, CellsIn.of_block hrow ?_, h.below hb, hb⟩
  have h1 := h.at_.ltg
  have h2 := h.at_.lts
  rintro (e | e) <;> omega
theorem run_new (n : Nat) (w W : World) (hb : Below w.heap.size w W) (h0 : 2 ≤ n) (h1 : n ≤ 4096) :
    Calls Try.prog 8 #[.int .i64 n] W fun e w' => ∃ g s, e = .returned (.tuple #[.pointer (some ⟨g, 0, none⟩), .int .i64 0]) ∧ Run w g s n w' (Dk.fresh n) ∧ Below W.heap.size W w' :=
  (new_ok n W h0 h1).mono fun _ w' ⟨he, hd, hb'⟩ => ⟨_, _, he, ⟨hd, hb.trans (hb'.mono hb.size), by have := hb.size; omega, hb.size⟩, hb'⟩

theorem bytes_new {w W : World} {g s n : Nat} {d : Dk.D} (h : Run w g s n W d) (l : Dk.Bs) (fr : Nat × Nat) : BytesIn (Two g s) (W.alloc (.cells (l.map bv).toArray 5 fr)) (some ⟨W.heap.size, 0, none⟩) l := by
  refine CellsIn.of_block (heap_alloc_new W _) ?_
  have h1 := h.at_.ltg
  have h2 := h.at_.lts
  rintro (e | e) <;> omega

theorem conv_str (F : Nat → Prop) (w : World) (A : Option Addr) (l : Dk.Bs) (c : Nat) (h : BytesIn F w A l) :
    (convert 32 9 (.slice A l.length c)).run Try.prog w = .ok (.string ⟨l.toArray⟩) w := by
  cases A with
  | none =>
    have : l = [] := by
      cases l with
      | nil => rfl
      | cons b l =>
        obtain ⟨ad, h1, _⟩ := BytesIn.at_ h (k := 0) (b := b) rfl
        cases h1
    subst this
    show (convert 32 9 (.slice none 0 c)).run Try.prog w = _
    rw [run_convert_bytes_string w _ _ _ none 0 c Try.underlying32 Try.underlying5 Try.underlying9]
    simp [Conv.bytesToString]
    rfl
  | some ad =>
    refine run_convert_bytes_back (P := Try.prog) w 32 9 5 ad c l Try.underlying32 Try.underlying5 Try.underlying9 ?_
    intro j hj
    obtain ⟨ad', h1, _, _, hcell⟩ := BytesIn.at_ h (List.getElem?_eq_getElem hj)
    obtain rfl := Option.some.inj h1
    exact hcell

def aw0 : Dk.D := Dk.fresh 2
def aw1 : Dk.D := Dk.wstate 2 aw0 0 [97, 98, 99]
def aw2 : Dk.D := Dk.fuseTo aw1 0 2
def aw3 : Dk.D := Dk.wstate 2 aw2 0 [120, 121, 122]
def aw4 : Dk.D := Dk.wstate 2 aw3 1 []
def aw5 : Dk.D := Dk.crash aw4
def aw6 : Dk.D := Dk.wstate 2 aw5 1 [113]
def aw7 : Dk.D := Dk.tstate 2 aw6 64 1

theorem awc1 : Dk.wcode 2 aw0 0 [97, 98, 99] = 0 := by decide +kernel
theorem awc3 : Dk.wcode 2 aw2 0 [120, 121, 122] = 7 := by decide +kernel
theorem awc4 : Dk.wcode 2 aw3 1 [] = 7 := by decide +kernel
theorem awc6 : Dk.wcode 2 aw5 1 [113] = 0 := by decide +kernel
theorem awsec : (Dk.sec aw4.b 0).take 4 = [120, 121, 99, 0] := by decide +kernel
theorem aww : aw6.writes = 2 := by decide +kernel
theorem aww0 : aw0.writes ≤ 1000000 := by decide +kernel
theorem aww2 : aw2.writes ≤ 1000000 := by decide +kernel
theorem aww3 : aw3.writes ≤ 1000000 := by decide +kernel
theorem aww5 : aw5.writes ≤ 1000000 := by decide +kernel

set_option maxHeartbeats 4000000 in
set_option maxRecDepth 100000 in
theorem awake_any (w : World) : Calls Try.prog 6 #[] w fun e w' => e = .returned (.bool true) ∧ Below w.heap.size w w' := by
  have HN1 : Hid (∀ W, Calls Try.prog 8 #[.int .i64 1] W fun e w' => e = .returned (.tuple #[.pointer none, .int .i64 1]) ∧ W = w') := fun W => new_no 1 W (.inl (by omega))
  have HN2 : Hid (Calls Try.prog 8 #[.int .i64 2] w fun e w' => ∃ g s, e = .returned (.tuple #[.pointer (some ⟨g, 0, none⟩), .int .i64 0]) ∧ Run w g s 2 w' aw0 ∧ Below w.heap.size w w') := run_new 2 w w (Below.refl _ _) (by omega) (by omega)
  have kc := fun (w : World) (C : Array Value) (n c : Nat) => Lib.run_convert_bytes_const (P := Try.prog) w 32 5 C n c Try.underlying32 Try.underlying5
  go_enter Try.func6, Try.ntmps6
  go_wp2_with fail
  refine HN2.out.mono ?_
  rintro e w0 ⟨g, s, rfl, h0, _⟩
  have H0 := Lib.hid h0
  clear h0 HN2
  go_wp2_with fail
  refine (HN1.out _).mono ?_
  rintro e w' ⟨rfl, rfl⟩
  clear HN1
  go_wp2_with fail
  refine (run_write (H0.out.alloc (.cells #[.int .u8 97, .int .u8 98, .int .u8 99] 5 (3, 4))) 0 _ 3 3 [97, 98, 99] aww0 rfl (by decide) (bytes_new H0.out [97, 98, 99] (3, 4)) 0 aw1 awc1 rfl).mono ?_
  rintro e w1 ⟨rfl, h1, _⟩
  have H1 := Lib.hid h1
  clear h1 H0
  go_wp2_with fail
  refine (run_fuse H1.out 0 2 (by omega) (by omega) aw2 rfl).mono ?_
  rintro e w2 ⟨rfl, h2, _⟩
  have H2 := Lib.hid h2
  clear h2 H1
  go_wp2_with fail
  refine (run_write (H2.out.alloc (.cells #[.int .u8 120, .int .u8 121, .int .u8 122] 5 (3, 4))) 0 _ 3 3 [120, 121, 122] aww2 rfl (by decide) (bytes_new H2.out [120, 121, 122] (3, 4)) 7 aw3 awc3 rfl).mono ?_
  rintro e w3 ⟨rfl, h3, _⟩
  have H3 := Lib.hid h3
  clear h3 H2
  go_wp2_with fail
  refine (run_write H3.out 1 none 0 0 [] aww3 rfl (by decide) (CellsIn.nil _ _ _) 7 aw4 awc4 rfl).mono ?_
  rintro e w4 ⟨rfl, h4, _⟩
  have H4 := Lib.hid h4
  clear h4 H3
  go_wp2_with fail
  refine (run_read H4.out 0 (by omega)).mono ?_
  rintro e w5 ⟨rfl, hby5, h5, _⟩
  have H5 := Lib.hid h5
  have HY5 := Lib.hid hby5
  clear h5 hby5 H4
  generalize w4.heap.size = gb at *
  go_wp2_with fail
  refine (run_crash H5.out aw5 rfl).mono ?_
  rintro e w6 ⟨rfl, h6, hk6⟩
  have H6 := Lib.hid h6
  have HY6 := Lib.hid (CellsIn.keep HY5.out hk6)
  clear h6 hk6 HY5 H5
  go_wp2_with fail
  refine (run_write (H6.out.alloc (.cells #[.int .u8 113] 5 (1, 2))) 1 _ 1 1 [113] aww5 rfl (by decide) (bytes_new H6.out [113] (1, 2)) 0 aw6 awc6 rfl).mono ?_
  rintro e w7 ⟨rfl, h7, hk7⟩
  have H7 := Lib.hid h7
  have HY7 := Lib.hid (CellsIn.keep (CellsIn.keep HY6.out ((Kept.refl (Two g s) w6).alloc _)) hk7)
  clear h7 hk7 HY6 H6
  go_wp2_with fail
  refine (read_no g s 2 aw6 2 w7 H7.out.at_ (by decide)).mono ?_
  rintro e w' ⟨rfl, rfl⟩
  have hy := CellsIn.take HY7.out 4
  rw [← List.map_take, awsec] at hy
  have hcv : (convert 32 9 (.slice (some ⟨gb, 0, none⟩) 4 32)).run Try.prog w7 = .ok (.string ⟨#[120, 121, 99, 0]⟩) w7 := conv_str _ w7 _ [120, 121, 99, 0] 32 hy
  have HSE : Hid (Calls Try.prog 19 #[.pointer (some ⟨g, 0, none⟩)] w7 fun e w' => e = .returned (.int .i64 2) ∧ w7 = w') := sectors_any g s 2 aw6 w7 H7.out.at_
  have hwr := writes_any g s 2 aw6 w7 H7.out.at_
  rw [aww] at hwr
  have HWR := Lib.hid hwr
  have HT1 : Hid (Calls Try.prog 23 #[.pointer (some ⟨g, 0, none⟩), .int .i64 64, .int .u8 1] w7 fun e w' => e = .returned (.int .i64 5) ∧ Run w g s 2 w' aw7 ∧ Kept (Two g s) w7 w') := run_turn H7.out 64 1 (by omega) 5 aw7 (by decide) rfl
  clear hy HY7 hwr
  go_wp2_with (first
    | (go_at_call 19; refine HSE.out.mono ?_; rintro e w' ⟨rfl, rfl⟩)
    | (go_at_call 18; refine HWR.out.mono ?_; rintro e w' ⟨rfl, rfl⟩)
    | fail)
  refine HT1.out.mono ?_
  rintro e w8 ⟨rfl, h8, _⟩
  have H8 := Lib.hid h8
  have HT2 : Hid (Calls Try.prog 23 #[.pointer (some ⟨g, 0, none⟩), .int .i64 0, .int .u8 1] w8 fun e w' => e = .returned (.int .i64 0) ∧ Run w g s 2 w' (Dk.tstate 2 aw7 0 1) ∧ Kept (Two g s) w8 w') := run_turn H8.out 0 1 (by omega) 0 _ (by decide) rfl
  clear h8 hcv HSE HWR
  go_wp2_with fail
  refine HT2.out.mono ?_
  rintro e w9 ⟨rfl, h9, _⟩
  have H9 := Lib.hid h9
  clear h9
  go_wp2
  go_ret
  exact ⟨rfl, H9.out.bel⟩

end Go.Proofs.Ythodnmcjgcnbbaa
