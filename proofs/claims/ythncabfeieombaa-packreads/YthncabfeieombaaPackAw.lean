/- The laws' own wake-up call over package pack returns true. -/
import Derived.Test.YthncabfeieombaaPackL
namespace Go.Proofs.Ythncabfeieombaa
open Go.RowKit

def nt : ByteArray := ⟨#[110, 116]⟩
def ab : ByteArray := ⟨#[97, 98]⟩
def two : List Pk.V := [(-1, ⟨#[]⟩), (0, ab)]

theorem wres_nt : Pk.wres (bs nt) two = (0, [1, 4, 97, 98]) := by
  have h1 : Pk.fine (bs nt) = true := by decide +kernel
  have h2 : (Pk.shape (Pk.lets (bs nt)) (Pk.often (bs nt)) two.length && Pk.okVals (Pk.lets (bs nt)) 0 two) = true := by decide +kernel
  rw [wres_0 h1 h2 (by decide)]
  have h3 : Pk.lets (bs nt) = [110, 116] := by decide +kernel
  rw [h3]
  have n1 : Pk.num 1 = [1] := Pk.num_small (by omega)
  have n4 : Pk.num 4 = [4] := Pk.num_small (by omega)
  have e1 : Pk.encV 110 (-1, ⟨#[]⟩) = [1] := n1
  have e2 : Pk.encV 116 (0, ab) = [4, 97, 98] := by
    show Pk.num 4 ++ _ = _
    rw [n4]; rfl
  show (0, Pk.encV 110 (-1, ⟨#[]⟩) ++ (Pk.encV 116 (0, ab) ++ [])) = _
  rw [e1, e2]; rfl
theorem rres_nt : Pk.rres (bs nt) [1, 4, 97, 98] = (0, two) := Pk.rres_back _ _ _ wres_nt (by decide)
theorem rres_1 : Pk.rres (bs nt) [1] = (3, []) := by decide +kernel
theorem rres_x : Pk.rres (bs ⟨#[120]⟩) [] = (1, []) := by decide +kernel
theorem rres_n : Pk.rres (bs ⟨#[110]⟩) [128, 0] = (2, []) := by decide +kernel

theorem cellsIn_new (w : World) (cs : Array Value) (t : TypeId) (fr : Nat × Nat) : CellsIn (w.alloc (.cells cs t fr)) (w.alloc (.cells cs t fr)).heap.size (some ⟨w.heap.size, 0, none⟩) cs.toList := by
  intro k u hu
  exact ⟨_, rfl, by simp, World.news_of_block (heap_alloc_new w _) k u hu⟩

theorem aw_write (w : World) :
    Calls Try.prog 9 #[.string nt, .slice (some ⟨w.heap.size, 0, none⟩) 2 2] (w.alloc (.cells #[.int .i64 (-1), .string ⟨#[]⟩, .int .i64 0, .string ab] 34)) fun e w' =>
      ∃ A c, e = .returned (.tuple #[.slice A 4 c, .int .i64 0]) ∧ 4 ≤ c ∧ c ≤ maxLen ∧ BytesIn w' w'.heap.size A [1, 4, 97, 98] ∧ Below w.heap.size w w' := by
  refine (write_any nt _ 2 2 two _ (by decide) rfl (by decide) (cellsIn_new w _ _ _) (by decide +kernel)).mono ?_
  rintro e w' ⟨v, rfl, ho, hb⟩
  rw [wres_nt] at ho ⊢
  obtain ⟨A, c, rfl, h1, h2, h3, _⟩ := ownsRow_slice ho
  exact ⟨A, c, rfl, h1, h2, h3, ((Below.refl _ _).alloc (Nat.le_refl _) _).trans (hb.mono (by simp))⟩

theorem aw_read (s : ByteArray) (hs : s.size ≤ maxLen) (A : Option Addr) (n c : Nat) (l : Pk.Bs) (q : Nat) (m : List Pk.V) (hr : Pk.rres (bs s) l = (q, m)) (k : Nat) (hk : m.length = k) (w : World) (hn : l.length = n) (hnc : n ≤ c) (hc : c ≤ maxLen) (hb : BytesIn w w.heap.size A l) :
    Calls Try.prog 15 #[.string s, .slice A n c] w fun e w' => ∃ A' c', e = .returned (.tuple #[.slice A' k c', .int .i64 (q : Int)]) ∧ k ≤ c' ∧ c' ≤ maxLen ∧ ValsIn w' w'.heap.size A' m ∧ Below w.heap.size w w' := by
  subst hk
  refine (read_any s A n c l w hs hn hnc hc hb).mono ?_
  rintro e w' ⟨v, rfl, ho, hbl⟩
  rw [hr] at ho ⊢
  obtain ⟨A', c', rfl, h1, h2, h3, _⟩ := ownsRow_slice ho
  exact ⟨A', c', rfl, h1, h2, h3, hbl⟩

set_option maxHeartbeats 4000000 in
set_option maxRecDepth 100000 in
theorem awake_any (w : World) : Calls Try.prog 7 #[] w fun e w' => e = .returned (.bool true) ∧ Below w.heap.size w w' := by
  go_enter Try.func7, Try.ntmps7
  go_wp2_with (first
    | (go_at_call 13; refine (num_any _ _).mono ?_; rintro e w1 ⟨rfl, hg1⟩; have HG1 := Lib.hid hg1; clear hg1)
    | (go_at_call 14; refine (txt_any _ _).mono ?_; rintro e w2 ⟨rfl, hg2⟩; have HG2 := Lib.hid hg2; clear hg2))
  have HB2 : Hid (Below w.heap.size w w2) := ((Below.refl _ _).grown HG1.out (Nat.le_refl _) (fun k e => by cases e)).grown HG2.out HG1.out.size (fun k e => by cases e)
  clear HG1 HG2
  refine (aw_write w2).mono ?_
  rintro e w3 ⟨A3, c3, rfl, h31, h32, hby3, hb3⟩
  have HB3 : Hid (Below w.heap.size w w3) := HB2.out.trans (hb3.mono HB2.out.size)
  have HY3 := Lib.hid hby3
  clear hby3 hb3 HB2
  go_wp2_with fail
  refine (aw_read nt (by decide) A3 4 c3 [1, 4, 97, 98] 0 two rres_nt 2 rfl w3 rfl h31 h32 HY3.out).mono ?_
  rintro e w4 ⟨A4, c4, rfl, h41, h42, hv4, hb4⟩
  have HB4 : Hid (Below w.heap.size w w4) := HB3.out.trans (hb4.mono HB3.out.size)
  have HY4 := Lib.hid ((HY3.out.below hb4 (Nat.le_refl _)).more hb4.size)
  have HV4 := Lib.hid hv4
  clear hv4 hb4 HB3 HY3
  go_wp2_with fail
  have HA4 : Hid (Below w.heap.size w (w4.alloc (.cells #[.int .u8 1] 5)) ∧ Below w4.heap.size w4 (w4.alloc (.cells #[.int .u8 1] 5))) := ⟨HB4.out.alloc HB4.out.size _, (Below.refl _ _).alloc (Nat.le_refl _) _⟩
  refine (aw_read nt (by decide) _ 1 1 [1] 3 [] rres_1 0 rfl (w4.alloc (.cells #[.int .u8 1] 5)) rfl (Nat.le_refl _) (by decide) (cellsIn_new w4 #[.int .u8 1] _ _)).mono ?_
  rintro e w5 ⟨A5, c5, rfl, h51, h52, _, hb5⟩
  have HB5 : Hid (Below w.heap.size w w5) := HA4.out.1.trans (hb5.mono HA4.out.1.size)
  have hb45 : Below w4.heap.size w4 w5 := HA4.out.2.trans (hb5.mono HA4.out.2.size)
  have HY5 := Lib.hid ((HY4.out.below hb45 (Nat.le_refl _)).more hb45.size)
  have HV5 := Lib.hid ((CellsIn.below HV4.out hb45 (Nat.le_refl _)).more hb45.size)
  clear hb5 hb45 HB4 HY4 HV4 HA4
  go_wp2_with fail
  refine (aw_read ⟨#[120]⟩ (by decide) none 0 0 [] 1 [] rres_x 0 rfl w5 rfl (Nat.le_refl _) (by decide) (CellsIn.nil _ _ _)).mono ?_
  rintro e w6 ⟨A6, c6, rfl, h61, h62, _, hb6⟩
  have HB6 : Hid (Below w.heap.size w w6) := HB5.out.trans (hb6.mono HB5.out.size)
  have HY6 := Lib.hid ((HY5.out.below hb6 (Nat.le_refl _)).more hb6.size)
  have HV6 := Lib.hid ((CellsIn.below HV5.out hb6 (Nat.le_refl _)).more hb6.size)
  clear hb6 HB5 HY5 HV5
  go_wp2_with fail
  have HA6 : Hid (Below w.heap.size w (w6.alloc (.cells #[.int .u8 128, .int .u8 0] 5)) ∧ Below w6.heap.size w6 (w6.alloc (.cells #[.int .u8 128, .int .u8 0] 5))) := ⟨HB6.out.alloc HB6.out.size _, (Below.refl _ _).alloc (Nat.le_refl _) _⟩
  refine (aw_read ⟨#[110]⟩ (by decide) _ 2 2 [128, 0] 2 [] rres_n 0 rfl (w6.alloc (.cells #[.int .u8 128, .int .u8 0] 5)) rfl (Nat.le_refl _) (by decide) (cellsIn_new w6 #[.int .u8 128, .int .u8 0] _ _)).mono ?_
  rintro e w7 ⟨A7, c7, rfl, h71, h72, _, hb7⟩
  have HB7 : Hid (Below w.heap.size w w7) := HA6.out.1.trans (hb7.mono HA6.out.1.size)
  have hb67 : Below w6.heap.size w6 w7 := HA6.out.2.trans (hb7.mono HA6.out.2.size)
  have hy7 := HY6.out.below hb67 (Nat.le_refl _)
  have hv7 := CellsIn.below HV6.out hb67 (Nat.le_refl _)
  have hcv : (convert 25 9 (.slice A3 4 c3)).run Try.prog w7 = .ok (.string ⟨#[1, 4, 97, 98]⟩) w7 := conv_str w7 _ A3 [1, 4, 97, 98] c3 hy7
  obtain ⟨ad, rfl, _, hc1, hc2⟩ := ValsIn.at_ (l := two) hv7 (k := 0) rfl
  obtain ⟨ad', he, _, hd1, hd2⟩ := ValsIn.at_ (l := two) hv7 (k := 1) rfl
  obtain rfl := Option.some.inj he
  have hf1 : w7.cell? ad = some (.int .i64 (-1)) := hc1
  have hf2 : w7.cell? ⟨ad.block, ad.off + 1, none⟩ = some (.string ⟨#[]⟩) := hc2
  have hf3 : w7.cell? ⟨ad.block, ad.off + 2, none⟩ = some (.int .i64 0) := hd1
  have hf4 : w7.cell? ⟨ad.block, ad.off + 2 + 1, none⟩ = some (.string ⟨#[97, 98]⟩) := hd2
  clear hb7 hb67 HB6 HY6 HV6 HA6 hy7 hv7 he hc1 hc2 hd1 hd2
  go_wp2
  go_ret
  exact ⟨rfl, HB7.out⟩

end Go.Proofs.Ythncabfeieombaa
