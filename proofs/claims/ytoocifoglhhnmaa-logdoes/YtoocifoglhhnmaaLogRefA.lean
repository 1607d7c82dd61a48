/- The document's log: four, filled. -/
import Derived.Test.YtoocifoglhhnmaaLogGoesT
namespace Go.Proofs.Ytoocifoglhhnmaa
open Go.RowKit
set_option linter.unusedVariables false

/-- a row of bytes that is ours -/
def OwnB (W : World) (base : Nat) (v : Value) (l : Dk.Bs) : Prop := W.ownsRow base 5 1 v l.length (l.map bv)
theorem OwnB.slice {W : World} {base : Nat} {v : Value} {l : Dk.Bs} (h : OwnB W base v l) : ∃ A c, v = .slice A l.length c ∧ l.length ≤ c ∧ c ≤ maxLen ∧ ∀ F : Nat → Prop, (∀ i, F i → i < base) → BytesIn F W A l := by
  obtain ⟨A, c, e, h1, h2, h3, _⟩ := ownsRow_slice h
  exact ⟨A, c, e, h1, h2, h3⟩
theorem OwnB.mono {W : World} {base b2 : Nat} {v : Value} {l : Dk.Bs} (h : OwnB W base v l) (hb : b2 ≤ base) : OwnB W b2 v l := by
  obtain ⟨a, b⟩ := h
  refine ⟨a, ?_⟩
  rcases b with b | ⟨g, cap, cur, hv, hg, r⟩
  · exact .inl b
  · exact .inr ⟨g, cap, cur, hv, Nat.le_trans hb hg, r⟩
/-- what an append of bytes to such a row leaves -/
def ByR (W : World) (base : Nat) (l : Dk.Bs) (m : Nat) (v' : Value) (w' : World) : Prop := ∃ A c, v' = .slice A m c ∧ Hid (OwnB w' base v' l ∧ Below base W w')
theorem ownb_app {W : World} {base : Nat} {v : Value} {l : Dk.Bs} (h : OwnB W base v l) (hb : base ≤ W.heap.size) (F : Nat → Prop) (A : Option Addr) (m c : Nat) (b : Dk.Bs) (hm : b.length = m) (hby : BytesIn F W A b) (hs : l.length + m ≤ 100000) :
    ∃ v' w', (Builtin.append_ #[38, 38] 38 #[v, .slice A m c]).run Try.prog W = .ok v' w' ∧ ByR W base (l ++ b) (l.length + m) v' w' := by
  obtain ⟨v', w', h1, h2, h3⟩ := run_append_bytes F W base 38 v l.length (l.map bv) h A m c b hm hby (by omega) hb
  have ho : OwnB w' base v' (l ++ b) := by unfold OwnB; rw [List.length_append, hm, List.map_append]; exact h2
  obtain ⟨A', c', e, _⟩ := ho.slice
  refine ⟨v', w', h1, A', c', by rw [e, List.length_append, hm], ho, ?_⟩
  exact ((Kept.refl (fun i => base ≤ i) W).grown h3 (fun k hk => .inl (h.lt k hk).1)).below (Below.refl _ _) hb (fun i hi e => by omega)

theorem bv_of (x : Nat) : Value.int .u8 ((x : Int) % 256) = bv (UInt8.ofNat x) := by unfold bv; rw [byte_of]
set_option maxHeartbeats 1000000 in
theorem rfour_any (k : Nat) (hk : k ≤ 4294967295) (w : World) :
    Calls Try.prog 55 #[.int .i64 k] w fun e w' => e = .returned (.slice (some ⟨w.heap.size, 0, none⟩) 4 4) ∧ Blk w' w.heap.size (Lg.be 4 k) ∧ Below w.heap.size w w' := by
  go_enter Try.func55, Try.ntmps55
  go_wp2
  go_ret
  refine ⟨rfl, ?_, (Below.refl _ _).alloc (Nat.le_refl _) _⟩
  unfold Blk
  rw [heap_alloc_new]
  simp only [Lg.be, List.nil_append, List.cons_append, List.map_cons, List.map_nil]
  have e0 : Value.int .u8 ((k : Int) / 16777216) = bv (UInt8.ofNat (k / 256 / 256 / 256)) := by rw [← bv_of]; congr 1; omega
  have e1 : Value.int .u8 ((k : Int) / 65536 % 256) = bv (UInt8.ofNat (k / 256 / 256)) := by rw [← bv_of]; congr 1; omega
  have e2 : Value.int .u8 ((k : Int) / 256 % 256) = bv (UInt8.ofNat (k / 256)) := by rw [← bv_of]; congr 1
  have e3 : Value.int .u8 ((k : Int) % 256) = bv (UInt8.ofNat k) := bv_of k
  rw [e0, e1, e2, e3]

set_option maxHeartbeats 1000000 in
set_option maxRecDepth 100000 in
theorem rfilled_any (A : Option Addr) (m c : Nat) (b : Dk.Bs) (w : World) (hm : b.length = m) (hm1 : m ≤ 31) (hb : BytesIn No w A b) :
    Calls Try.prog 57 #[.slice A m c] w fun e w' => ∃ A' c', e = .returned (.slice A' 32 c') ∧ OwnB w' w.heap.size (.slice A' 32 c') (b ++ Lg.zeros (31 - m) ++ [165]) ∧ Below w.heap.size w w' := by
  have HM := Lib.hid hm
  have HA0 : Hid (∃ v' w', (Builtin.append_ #[38, 38] 38 #[.slice (some ⟨w.heap.size, 0, none⟩) 0 0, .slice A m c]).run Try.prog (w.alloc (.cells #[] 5)) = .ok v' w' ∧ ByR w w.heap.size b m v' w') := by
    obtain ⟨v', w', h1, A', c', e, h2⟩ := ownb_app (W := w.alloc (.cells #[] 5)) (base := w.heap.size) (v := .slice (some ⟨w.heap.size, 0, none⟩) 0 0) (l := []) (own_empty w w.heap.size (Nat.le_refl _) 5 1) (by simp) No A m c b hm (CellsIn.keep hb ((Kept.refl No w).alloc _)) (by simp; omega)
    rw [List.length_nil, Nat.zero_add] at e
    rw [List.nil_append] at h2
    exact ⟨v', w', h1, A', c', e, h2.out.1, ((Below.refl _ w).alloc (Nat.le_refl _) _).trans h2.out.2⟩
  clear hb hm
  go_enter Try.func57, Try.ntmps57
  go_wp2_with (at_builtin; refine wpList_append_any rfl (.tmp 4) (.tmp 5) 38 38 rfl _ _ rfl rfl _ HA0.out ?_; intro v2 w2 hap; obtain ⟨A2, c2, rfl, HAP⟩ := hap)
  clear HA0
  go_loopg [3] (31 - m) (fun gk s3 W => ∃ (k : Nat) (A' : Option Addr) (c' : Nat), k + gk = 31 - m ∧ s3 = .slice A' (m + k) c' ∧ Hid (OwnB W w.heap.size (.slice A' (m + k) c') (b ++ Lg.zeros k)) ∧ Hid (Below w.heap.size w W))
  case atStart =>
    refine ⟨0, A2, c2, by omega, rfl, ?_, HAP.out.2⟩
    have : b ++ Lg.zeros 0 = b := by simp [Lg.zeros]
    rw [this]; exact HAP.out.1
  case round =>
    clear HAP
    obtain ⟨k, A', c', hkg, rfl, HO, HB⟩ := hrel
    cases gk with
    | zero =>
      have hk31 : m + k = 31 := by omega
      have d1 : decide (((m + k : Nat) : Int) < 31) = false := decide_eq_false (by omega)
      have HA1 : Hid (∃ v' w', (Builtin.append_ #[38, 38] 38 #[.slice A' (m + k) c', .slice (some ⟨wr.heap.size, 0, none⟩) 1 1]).run Try.prog (wr.alloc (.cells #[.int .u8 165] 5)) = .ok v' w' ∧ ByR w w.heap.size (b ++ Lg.zeros k ++ [165]) 32 v' w') := by
        have hl : (b ++ Lg.zeros k).length = m + k := by rw [List.length_append, HM.out, Lg.zeros_len]
        obtain ⟨v', w', h1, A3, c3, e, h2⟩ := ownb_app (W := wr.alloc (.cells #[.int .u8 165] 5)) (base := w.heap.size) (v := .slice A' (m + k) c') (l := b ++ Lg.zeros k) (own_keep HO.out ((Kept.refl No wr).alloc _) (fun _ _ => id)) (by simp; have := HB.out.size; omega) No (some ⟨wr.heap.size, 0, none⟩) 1 1 [165] rfl (CellsIn.of_block (cs := [165].map bv) (heap_alloc_new wr _) id) (by rw [hl]; omega)
        rw [hl, hk31] at e
        exact ⟨v', w', h1, A3, c3, e, h2.out.1, (HB.out.alloc HB.out.size _).trans h2.out.2⟩
      have HK : Hid (k = 31 - m) := by unfold Hid; omega
      clear HO HB
      generalize m + k = mk at *
      go_wp2_with (at_builtin; refine wpList_append_any rfl (.tmp 13) (.tmp 14) 38 38 rfl _ _ rfl rfl _ HA1.out ?_; intro v3 w3 hap; obtain ⟨A3, c3, rfl, HAP⟩ := hap)
      go_ret
      exact ⟨A3, c3, rfl, by rw [← HK.out]; exact HAP.out.1, HAP.out.2⟩
    | succ q =>
      have d1 : decide (((m + k : Nat) : Int) < 31) = true := decide_eq_true (by omega)
      have HA1 : Hid (∃ v' w', (Builtin.append_ #[38, 38] 38 #[.slice A' (m + k) c', .slice (some ⟨wr.heap.size, 0, none⟩) 1 1]).run Try.prog (wr.alloc (.cells #[.int .u8 0] 5)) = .ok v' w' ∧ ByR w w.heap.size (b ++ Lg.zeros (k + 1)) (m + (k + 1)) v' w') := by
        have hl : (b ++ Lg.zeros k).length = m + k := by rw [List.length_append, HM.out, Lg.zeros_len]
        obtain ⟨v', w', h1, A3, c3, e, h2⟩ := ownb_app (W := wr.alloc (.cells #[.int .u8 0] 5)) (base := w.heap.size) (v := .slice A' (m + k) c') (l := b ++ Lg.zeros k) (own_keep HO.out ((Kept.refl No wr).alloc _) (fun _ _ => id)) (by simp; have := HB.out.size; omega) No (some ⟨wr.heap.size, 0, none⟩) 1 1 [0] rfl (CellsIn.of_block (cs := [0].map bv) (heap_alloc_new wr _) id) (by rw [hl]; omega)
        rw [hl] at e
        have hz : b ++ Lg.zeros k ++ [0] = b ++ Lg.zeros (k + 1) := by unfold Lg.zeros; rw [List.replicate_succ', List.append_assoc]
        rw [hz] at h2
        exact ⟨v', w', h1, A3, c3, e, h2.out.1, (HB.out.alloc HB.out.size _).trans h2.out.2⟩
      clear HO HB
      generalize hmk : m + k = mk at *
      have HMK : Hid (m + (k + 1) = mk + 1) := by unfold Hid; omega
      go_wp2_with (at_builtin; refine wpList_append_any rfl (.tmp 10) (.tmp 11) 38 38 rfl _ _ rfl rfl _ HA1.out ?_; intro v3 w3 hap; obtain ⟨A3, c3, rfl, HAP⟩ := hap)
      go_roundg q
      case measure => omega
      case rel => exact ⟨k + 1, A3, c3, by omega, rfl, HAP.out.1, HAP.out.2⟩
end Go.Proofs.Ytoocifoglhhnmaa
