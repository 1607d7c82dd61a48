/- What stands on a disk of a log, and what opens: plain mathematics over the functions that the contracts name. -/
import Derived.Test.YtoocifoglhhnmaaLogOpen
namespace Go.Proofs.Ytoocifoglhhnmaa
set_option linter.unusedVariables false
namespace Lg
open Dk (Bs D)

def lastB (b : Bs) (k : Nat) : UInt8 := (Dk.sec b k).getD 31 0
def LaidAt (b : Bs) (s g : Nat) : List Bs → Nat → Nat → Nat → Prop
  | [], a, _, e => e = a
  | r :: rs, a, p, e => r.length ≤ 200 ∧ cut b (s + a) (secs r.length) = recd r g p ∧ LaidAt b s g rs (a + secs r.length) (p + 1) e

theorem laid_end {b : Bs} {s g : Nat} : ∀ {rs : List Bs} {a p e : Nat}, LaidAt b s g rs a p e → e = a + sumSecs rs
  | [], a, p, e, h => by simp [LaidAt] at h; simp [sumSecs, h]
  | r :: rs, a, p, e, h => by have := laid_end h.2.2; simp [sumSecs]; omega
theorem laid_200 {b : Bs} {s g : Nat} : ∀ {rs : List Bs} {a p e : Nat}, LaidAt b s g rs a p e → ∀ r ∈ rs, r.length ≤ 200
  | [], _, _, _, _, r, hr => by cases hr
  | x :: rs, a, p, e, h, r, hr => by
    rcases List.mem_cons.1 hr with rfl | hr
    · exact h.1
    · exact laid_200 h.2.2 r hr

theorem cut_take {b : Bs} {k m : Nat} (h : 1 ≤ m) : (cut b k m).take 32 = Dk.sec b k := by
  unfold cut Dk.sec
  rw [List.take_take, Nat.min_eq_left (by omega)]
theorem recd_take2 (b : Bs) (g p : Nat) : (recd b g p).take 2 = be 2 b.length := by
  unfold recd mid top
  simp only [List.append_assoc]
  rw [List.take_append, be_len, Nat.sub_self, List.take_zero, List.append_nil, List.take_of_length_le (by rw [be_len]; omega)]
theorem recd_last (b : Bs) (g p : Nat) : (recd b g p).getD 31 0 = 165 := by
  have hl : (mid b g p ++ zeros (17 - b.length)).length = 31 := by simp [zeros_len, mid_len]; omega
  unfold recd
  rw [List.getD_eq_getElem?_getD, List.append_assoc, List.getElem?_append_right (by omega), hl]
  rfl
theorem head_take4 (g : Nat) : (head g).take 4 = be 4 g := by
  unfold head
  simp only [List.append_assoc]
  rw [List.take_append, be_len, Nat.sub_self, List.take_zero, List.append_nil, List.take_of_length_le (by rw [be_len]; omega)]
theorem head_last (g : Nat) : (head g).getD 31 0 = 165 := by
  unfold head
  have hl : (be 4 g ++ be 4 (crc (be 4 g)) ++ zeros 23).length = 31 := by simp [zeros_len, be_len]
  rw [List.getD_eq_getElem?_getD, List.getElem?_append_right (by omega), hl]
  rfl

theorem recAt_laid {b : Bs} {s size g a p : Nat} {r : Bs} (h2 : r.length ≤ 200) (hc : cut b (s + a) (secs r.length) = recd r g p) (hf : a + secs r.length ≤ size) : recAt b s size g a p = some r := by
  have hq := secs_pos r.length
  have hn : num ((Dk.sec b (s + a)).take 2) = r.length := by
    rw [← cut_take (b := b) (k := s + a) hq, hc, List.take_take, Nat.min_eq_left (by omega), recd_take2, num_be]
    omega
  have ho : own (cut b (s + a) (secs r.length)) r.length = r := by rw [hc]; exact recd_own r g p
  have := recAt_yes (b := b) (s := s) (size := size) (g := g) (a := a) (p := p) (x := r.length) (by omega) hn (by omega) (by omega) (by rw [ho, hc])
  rw [ho] at this
  exact this
theorem recAt_stop {b : Bs} {s size g a p : Nat} (h : a < size → lastB b (s + a) ≠ 165) : recAt b s size g a p = none := by
  by_cases ha : size ≤ a
  · exact recAt_far ha
  by_cases h1 : 200 < num ((Dk.sec b (s + a)).take 2)
  · exact recAt_long ha h1
  by_cases h2 : size < a + secs (num ((Dk.sec b (s + a)).take 2))
  · exact recAt_out ha h1 h2
  refine recAt_no ha rfl h1 h2 (fun hc => h (by omega) ?_)
  have hq := secs_pos (num ((Dk.sec b (s + a)).take 2))
  unfold lastB
  rw [← cut_take (b := b) (k := s + a) hq, hc, List.getD_eq_getElem?_getD, List.getElem?_take_of_lt (by omega), ← List.getD_eq_getElem?_getD]
  exact recd_last _ _ _

theorem scan_laid {b : Bs} {s size g : Nat} : ∀ {rs : List Bs} {f a p e : Nat}, LaidAt b s g rs a p e → e ≤ size → (e < size → lastB b (s + e) ≠ 165) → size + 1 ≤ f + a → scan b s size g f a p = (rs, e)
  | [], f, a, p, e, h, he, hs, hf => by
    simp [LaidAt] at h
    subst h
    obtain ⟨f, rfl⟩ : ∃ q, f = q + 1 := ⟨f - 1, by omega⟩
    unfold scan
    rw [recAt_stop hs]
  | r :: rs, f, a, p, e, h, he, hs, hf => by
    obtain ⟨h1, h2, h3⟩ := h
    have hq := secs_pos r.length
    have hee := laid_end h3
    obtain ⟨f, rfl⟩ : ∃ q, f = q + 1 := ⟨f - 1, by omega⟩
    unfold scan
    rw [recAt_laid h1 h2 (by omega)]
    have := scan_laid (f := f) h3 he hs (by omega)
    simp only [this]

theorem genOf_head {b : Bs} {s g : Nat} (h : Dk.sec b s = head g) (h0 : 1 ≤ g) (h1 : g ≤ 2147483647) : genOf b s = g := by
  have hn : num ((Dk.sec b s).take 4) = g := by rw [h, head_take4, num_be]; omega
  rw [genOf_eq (by omega) (by omega) (by rw [hn]; exact h), hn]
theorem genOf_low {b : Bs} {s g : Nat} (h : lastB b s ≠ 165 ∨ num ((Dk.sec b s).take 4) < g) (h0 : 1 ≤ g) : genOf b s < g := by
  by_cases h1 : num ((Dk.sec b s).take 4) < 1
  · rw [genOf_lo h1]; omega
  by_cases h2 : 2147483647 < num ((Dk.sec b s).take 4)
  · rw [genOf_hi h2]; omega
  by_cases h3 : Dk.sec b s = head (num ((Dk.sec b s).take 4))
  · rw [genOf_eq h1 h2 h3]
    rcases h with h | h
    · exact absurd (by unfold lastB; rw [h3]; exact head_last _) h
    · exact h
  · rw [genOf_ne h1 h2 h3]; omega

structure Opens (n : Nat) (b : Bs) (half g : Nat) (recs : List Bs) (e : Nat) : Prop where
  len : b.length = 32 * n
  n4 : 4 ≤ n
  hf : half ≤ 1
  g0 : 1 ≤ g
  g1 : g ≤ 2147483647
  hd : Dk.sec b (start n half) = head g
  laid : LaidAt b (start n half) g recs 1 0 e
  fin : e ≤ n / 2
  stop : e < n / 2 → lastB b (start n half + e) ≠ 165
  low : lastB b (start n (1 - half)) ≠ 165 ∨ num ((Dk.sec b (start n (1 - half))).take 4) < g

theorem Opens.choose {n : Nat} {d : D} {half g : Nat} {recs : List Bs} {e : Nat} (h : Opens n d.b half g recs e) : chooseQ n d = (d, 0, g, half) := by
  have hg := genOf_head h.hd h.g0 h.g1
  have hl := genOf_low h.low h.g0
  have h0 := h.g0
  have hh : half = 0 ∨ half = 1 := by have := h.hf; omega
  unfold chooseQ
  rcases hh with rfl | rfl
  · rw [start_zero] at hg
    rw [show 1 - 0 = 1 from rfl, start_one] at hl
    rw [if_neg (by omega), if_pos (by omega), hg]
  · rw [start_one] at hg
    rw [show 1 - 1 = 0 from rfl, start_zero] at hl
    rw [if_pos (by omega), hg]
theorem Opens.scan {n : Nat} {d : D} {half g : Nat} {recs : List Bs} {e : Nat} (h : Opens n d.b half g recs e) : Lg.scan d.b (start n half) (n / 2) g (n / 2) 1 0 = (recs, e) :=
  scan_laid h.laid h.fin h.stop (Nat.le_refl _)
theorem Opens.open_ {n : Nat} {d : D} {half g : Nat} {recs : List Bs} {e : Nat} (h : Opens n d.b half g recs e) :
    openQ n d = ((wipeS n (start n half) e (n / 2) d).1, (wipeS n (start n half) e (n / 2) d).2, ⟨half, g, recs, e, false⟩) := by
  unfold openQ
  rw [h.choose]
  unfold openEnd
  simp only [if_true, h.scan]

/-! one write -/
theorem fill_nil : Dk.fill [] = zeros 32 := by decide
theorem fill_full {l : Bs} (h : l.length = 32) : Dk.fill l = l := by
  unfold Dk.fill Go.splice
  rw [List.take_zero, List.nil_append, h, List.drop_eq_nil_of_le (by simp), List.append_nil]

/-- what a write makes of the bytes: all of it, where it has no error; else the first of them, or nothing -/
theorem wr_bytes {n : Nat} {d : D} (hg : Dk.Good n d) {k : Nat} (hk : k < n) {l : Bs} (hl : l.length ≤ 32) :
    ((wr n d k l).2 = 0 ∧ (wr n d k l).1.b = Dk.lay d.b k l 32) ∨ ((wr n d k l).2 = 7 ∧ ∃ f, f ≤ 32 ∧ (wr n d k l).1.b = Dk.lay d.b k l f) := by
  have h1 : ¬ Dk.has n (k : Int) = false := by simp [Dk.has]; omega
  have h2 : ¬ 32 < l.length := by omega
  unfold wr Dk.wcode Dk.wstate
  simp only [if_neg h1, if_neg h2]
  by_cases h3 : d.up = false
  · right
    simp only [if_pos h3]
    exact ⟨trivial, 0, by omega, by rw [Dk.lay_zero]⟩
  simp only [if_neg h3]
  by_cases h4 : d.fuse = 0
  · right
    simp only [if_pos h4]
    exact ⟨trivial, d.torn.toNat, by have := hg.t1; omega, by rw [Int.toNat_natCast]⟩
  · left
    simp only [if_neg h4]
    exact ⟨trivial, by rw [Int.toNat_natCast]⟩

theorem lastB_lay {b l : Bs} {n k f : Nat} (hb : b.length = 32 * n) (hk : k < n) (hl : l.length ≤ 32) (hf : f < 32) : lastB (Dk.lay b k l f) k = lastB b k := by
  unfold lastB
  rw [Dk.sec_lay hb hk hl (by omega), List.getD_eq_getElem?_getD, List.getD_eq_getElem?_getD, List.getElem?_append_right (by rw [List.length_take, Dk.fill_len hl]; omega), List.length_take, Dk.fill_len hl, Nat.min_eq_left (by omega), List.getElem?_drop]
  congr 2
  omega
theorem sec_lay_full {b l : Bs} {n k : Nat} (hb : b.length = 32 * n) (hk : k < n) (hl : l.length ≤ 32) : Dk.sec (Dk.lay b k l 32) k = Dk.fill l := by
  rw [Dk.sec_lay hb hk hl (by omega), List.take_of_length_le (by rw [Dk.fill_len hl]; omega), List.drop_eq_nil_of_le (by rw [Dk.sec_len hb hk]; omega), List.append_nil]

/-! wiping -/
def Zed (b b' : Bs) (k : Nat) : Prop := Dk.sec b' k = Dk.sec b k ∨ ∃ f, f ≤ 32 ∧ Dk.sec b' k = (zeros 32).take f ++ (Dk.sec b k).drop f

theorem wipe_bytes {n s to : Nat} : ∀ (m : Nat) {d : D}, Dk.Good n d → s + m ≤ n →
    Dk.Good n (wipeS n s to m d).1 ∧ ((wipeS n s to m d).2 = 0 ∨ (wipeS n s to m d).2 = 7) ∧ (∀ k, k < s + to ∨ s + m ≤ k → Dk.sec (wipeS n s to m d).1.b k = Dk.sec d.b k) ∧ (∀ k, Zed d.b (wipeS n s to m d).1.b k) ∧
    ((wipeS n s to m d).2 = 0 → ∀ k, s + to ≤ k → k < s + m → Dk.sec (wipeS n s to m d).1.b k = zeros 32)
  | 0, d, hg, hm => ⟨hg, .inl rfl, fun _ _ => rfl, fun _ => .inl rfl, fun _ k h1 h2 => by omega⟩
  | m + 1, d, hg, hm => by
    unfold wipeS
    by_cases h1 : m < to
    · rw [if_pos h1]
      exact ⟨hg, .inl rfl, fun _ _ => rfl, fun _ => .inl rfl, fun _ k h1 h2 => by omega⟩
    rw [if_neg h1]
    by_cases h2 : Dk.sec d.b (s + m) = zeros 32
    · rw [if_pos h2]
      obtain ⟨i1, i2, i3, i4, i5⟩ := wipe_bytes (s := s) (to := to) m hg (by omega)
      refine ⟨i1, i2, fun k hk => i3 k (by omega), i4, fun hc k k1 k2 => ?_⟩
      by_cases e : k = s + m
      · subst e; rw [i3 (s + m) (by omega)]; exact h2
      · exact i5 hc k k1 (by omega)
    rw [if_neg h2]
    have hkn : s + m < n := by omega
    rcases wr_bytes hg hkn (l := []) (by simp) with ⟨hc, hb⟩ | ⟨hc, f, hf, hb⟩
    · rw [if_pos hc]
      obtain ⟨i1, i2, i3, i4, i5⟩ := wipe_bytes (s := s) (to := to) m (wr_good hg (s + m) []) (by omega)
      have ho : ∀ k, k ≠ s + m → Dk.sec (wr n d (s + m) []).1.b k = Dk.sec d.b k := fun k hk => by rw [hb]; exact Dk.sec_lay_other hg.len hkn (by simp) (by omega) hk
      have hz : Dk.sec (wr n d (s + m) []).1.b (s + m) = zeros 32 := by rw [hb, sec_lay_full hg.len hkn (by simp)]; exact fill_nil
      refine ⟨i1, i2, fun k hk => (i3 k (by omega)).trans (ho k (by omega)), fun k => ?_, fun hc k k1 k2 => ?_⟩
      · by_cases e : k = s + m
        · subst e
          refine .inr ⟨32, by omega, ?_⟩
          rw [i3 (s + m) (by omega), hz, List.take_of_length_le (by rw [zeros_len]; omega), List.drop_eq_nil_of_le (by rw [Dk.sec_len hg.len hkn]; omega), List.append_nil]
        · have := i4 k
          unfold Zed at this ⊢
          rw [ho k e] at this
          exact this
      · by_cases e : k = s + m
        · subst e; rw [i3 (s + m) (by omega)]; exact hz
        · exact i5 hc k k1 (by omega)
    · rw [if_neg (by rw [hc]; decide)]
      refine ⟨wr_good hg _ _, .inr hc, fun k hk => by rw [hb]; exact Dk.sec_lay_other hg.len hkn (by simp) hf (by omega), fun k => ?_, (fun h0 => by rw [hc] at h0; cases h0)⟩
      by_cases e : k = s + m
      · subst e
        exact .inr ⟨f, hf, by rw [hb, Dk.sec_lay hg.len hkn (by simp) hf, fill_nil]⟩
      · exact .inl (by rw [hb]; exact Dk.sec_lay_other hg.len hkn (by simp) hf e)

theorem num_zed {S : Bs} (f : Nat) (hS : S.length = 32) (hf : f ≤ 32) : num (((zeros 32).take f ++ S.drop f).take 4) ≤ num (S.take 4) := by
  have key : ∀ (l m : Bs), l.length = m.length → (∀ i, (l.getD i 0).toNat ≤ (m.getD i 0).toNat) → ∀ a c : Nat, a ≤ c → l.foldl (fun n c => 256 * n + c.toNat) a ≤ m.foldl (fun n c => 256 * n + c.toNat) c := by
    intro l
    induction l with
    | nil => intro m hm _ a c hac; cases m with
      | nil => exact hac
      | cons x m => simp at hm
    | cons y l ih =>
      intro m hm hi a c hac
      cases m with
      | nil => simp at hm
      | cons x m =>
        rw [List.foldl_cons, List.foldl_cons]
        refine ih m (by simpa using hm) (fun i => by simpa using hi (i + 1)) _ _ ?_
        have := hi 0
        simp at this
        omega
  have hlz : ((zeros 32).take f).length = f := by rw [List.length_take, zeros_len]; omega
  refine key _ _ (by simp [hlz, hS]; omega) (fun i => ?_) 0 0 (Nat.le_refl _)
  rw [List.getD_eq_getElem?_getD, List.getD_eq_getElem?_getD]
  by_cases h4 : i < 4
  · rw [List.getElem?_take_of_lt h4, List.getElem?_take_of_lt h4]
    by_cases hi : i < f
    · rw [List.getElem?_append_left (by omega), List.getElem?_take_of_lt hi]
      unfold zeros
      rw [List.getElem?_replicate, if_pos (by omega)]
      simp
    · rw [List.getElem?_append_right (by omega), hlz, List.getElem?_drop, show f + (i - f) = i by omega]
      exact Nat.le_refl _
  · rw [List.getElem?_eq_none (by rw [List.length_take]; omega)]
    simp
theorem zed_last {b b' : Bs} {n k : Nat} (hb : b.length = 32 * n) (hk : k < n) (h : Zed b b' k) : lastB b' k = lastB b k ∨ lastB b' k = 0 := by
  unfold lastB
  rcases h with h | ⟨f, hf, h⟩
  · rw [h]; exact .inl rfl
  · rw [h]
    have hlz : ((zeros 32).take f).length = f := by rw [List.length_take, zeros_len]; omega
    by_cases hi : 31 < f
    · right
      rw [List.getD_eq_getElem?_getD, List.getElem?_append_left (by omega), List.getElem?_take_of_lt hi]
      unfold zeros
      rw [List.getElem?_replicate, if_pos (by omega)]
      rfl
    · left
      rw [List.getD_eq_getElem?_getD, List.getD_eq_getElem?_getD, List.getElem?_append_right (by omega), hlz, List.getElem?_drop, show f + (31 - f) = 31 by omega]
theorem zed_num {b b' : Bs} {n k : Nat} (hb : b.length = 32 * n) (hk : k < n) (h : Zed b b' k) : num ((Dk.sec b' k).take 4) ≤ num ((Dk.sec b k).take 4) := by
  rcases h with h | ⟨f, hf, h⟩
  · rw [h]; exact Nat.le_refl _
  · rw [h]; exact num_zed f (Dk.sec_len hb hk) hf
theorem last_zero {b : Bs} {k : Nat} (h : Dk.sec b k = zeros 32) : lastB b k ≠ 165 := by unfold lastB; rw [h]; decide

/-! laying -/
theorem cut_congr {b b' : Bs} {k k' : Nat} : ∀ (m : Nat), (∀ i, i < m → Dk.sec b' (k' + i) = Dk.sec b (k + i)) → cut b' k' m = cut b k m
  | 0, _ => by simp [cut]
  | m + 1, h => by rw [cut_succ, cut_succ, cut_congr m (fun i hi => h i (by omega)), h m (by omega)]
theorem cut_all {l : Bs} {m : Nat} (h : l.length = 32 * m) : cut l 0 m = l := by unfold cut; rw [Nat.mul_zero, List.drop_zero, List.take_of_length_le (by omega)]
theorem laid_congr {b b' : Bs} {s g : Nat} : ∀ {rs : List Bs} {a p e : Nat}, LaidAt b s g rs a p e → (∀ k, s + a ≤ k → k < s + e → Dk.sec b' k = Dk.sec b k) → LaidAt b' s g rs a p e
  | [], _, _, _, h, _ => h
  | r :: rs, a, p, e, h, hk => by
    have he := laid_end h.2.2
    refine ⟨h.1, ?_, laid_congr h.2.2 (fun k k1 k2 => hk k (by omega) k2)⟩
    rw [← h.2.1]
    exact cut_congr _ (fun i hi => hk _ (by omega) (by omega))
theorem laid_snoc {b : Bs} {s g : Nat} {r : Bs} (hr : r.length ≤ 200) : ∀ {rs : List Bs} {a p e : Nat}, LaidAt b s g rs a p e → cut b (s + e) (secs r.length) = recd r g (p + rs.length) → LaidAt b s g (rs ++ [r]) a p (e + secs r.length)
  | [], a, p, e, h, hc => by
    simp [LaidAt] at h
    subst h
    exact ⟨hr, by simpa using hc, rfl⟩
  | x :: rs, a, p, e, h, hc => ⟨h.1, h.2.1, laid_snoc hr h.2.2 (by rw [hc]; congr 1; simp; omega)⟩

theorem lay_bytes {n k : Nat} {l : Bs} (hlen : ∀ j, (Dk.sec l j).length ≤ 32) : ∀ (r i : Nat) {d : D}, Dk.Good n d → 1 ≤ i → k + i + r ≤ n → (∀ j, j < i + r → (Dk.sec l j).length = 32) →
    Dk.Good n (layS n k l r i d).1 ∧ ((layS n k l r i d).2 = 0 ∨ (layS n k l r i d).2 = 7) ∧ (∀ j, (j < k ∨ k + i + r ≤ j ∨ (k < j ∧ j < k + i)) → Dk.sec (layS n k l r i d).1.b j = Dk.sec d.b j) ∧
    ((layS n k l r i d).2 = 0 → Dk.sec (layS n k l r i d).1.b k = Dk.sec l 0 ∧ ∀ j, i ≤ j → j < i + r → Dk.sec (layS n k l r i d).1.b (k + j) = Dk.sec l j) ∧
    ((layS n k l r i d).2 ≠ 0 → lastB (layS n k l r i d).1.b k = lastB d.b k ∨ (Dk.sec (layS n k l r i d).1.b k = Dk.sec l 0 ∧ ∀ j, i ≤ j → j < i + r → Dk.sec (layS n k l r i d).1.b (k + j) = Dk.sec l j))
  | 0, i, d, hg, hi, hn, h32 => by
    unfold layS
    have hkn : k < n := by omega
    rcases wr_bytes hg hkn (hlen 0) with ⟨hc, hb⟩ | ⟨hc, f, hf, hb⟩
    · have hs : Dk.sec (wr n d k (Dk.sec l 0)).1.b k = Dk.sec l 0 := by rw [hb, sec_lay_full hg.len hkn (hlen 0), fill_full (h32 0 (by omega))]
      exact ⟨wr_good hg _ _, .inl hc, fun j hj => by rw [hb]; exact Dk.sec_lay_other hg.len hkn (hlen 0) (by omega) (by omega), fun _ => ⟨hs, fun j h1 h2 => by omega⟩, fun h => absurd hc h⟩
    · refine ⟨wr_good hg _ _, .inr hc, fun j hj => by rw [hb]; exact Dk.sec_lay_other hg.len hkn (hlen 0) hf (by omega), (fun h => by rw [hc] at h; cases h), fun _ => ?_⟩
      by_cases e : f = 32
      · subst e
        exact .inr ⟨by rw [hb, sec_lay_full hg.len hkn (hlen 0), fill_full (h32 0 (by omega))], fun j h1 h2 => by omega⟩
      · exact .inl (by rw [hb]; exact lastB_lay hg.len hkn (hlen 0) (by omega))
  | r + 1, i, d, hg, hi, hn, h32 => by
    unfold layS
    have hkn : k + i < n := by omega
    rcases wr_bytes hg hkn (hlen i) with ⟨hc, hb⟩ | ⟨hc, f, hf, hb⟩
    · rw [if_pos hc]
      have hs : Dk.sec (wr n d (k + i) (Dk.sec l i)).1.b (k + i) = Dk.sec l i := by rw [hb, sec_lay_full hg.len hkn (hlen i), fill_full (h32 i (by omega))]
      have ho : ∀ j, j ≠ k + i → Dk.sec (wr n d (k + i) (Dk.sec l i)).1.b j = Dk.sec d.b j := fun j hj => by rw [hb]; exact Dk.sec_lay_other hg.len hkn (hlen i) (by omega) hj
      obtain ⟨i1, i2, i3, i4, i5⟩ := lay_bytes (k := k) hlen r (i + 1) (wr_good hg (k + i) (Dk.sec l i)) (by omega) (by omega) (fun j hj => h32 j (by omega))
      have hi' : Dk.sec (layS n k l r (i + 1) (wr n d (k + i) (Dk.sec l i)).1).1.b (k + i) = Dk.sec l i := (i3 (k + i) (by omega)).trans hs
      have all : (∀ j, i + 1 ≤ j → j < i + 1 + r → Dk.sec (layS n k l r (i + 1) (wr n d (k + i) (Dk.sec l i)).1).1.b (k + j) = Dk.sec l j) → ∀ j, i ≤ j → j < i + (r + 1) → Dk.sec (layS n k l r (i + 1) (wr n d (k + i) (Dk.sec l i)).1).1.b (k + j) = Dk.sec l j := fun h j h1 h2 => by
        by_cases e : j = i
        · subst e; exact hi'
        · exact h j (by omega) (by omega)
      refine ⟨i1, i2, fun j hj => (i3 j (by omega)).trans (ho j (by omega)), fun h => ⟨(i4 h).1, all (i4 h).2⟩, fun h => ?_⟩
      rcases i5 h with h' | h'
      · left
        rw [h']
        unfold lastB
        rw [ho k (by omega)]
      · exact .inr ⟨h'.1, all h'.2⟩
    · rw [if_neg (by rw [hc]; decide)]
      refine ⟨wr_good hg _ _, .inr hc, fun j hj => by rw [hb]; exact Dk.sec_lay_other hg.len hkn (hlen i) hf (by omega), (fun h => by rw [hc] at h; cases h), fun _ => .inl ?_⟩
      unfold lastB
      rw [hb, Dk.sec_lay_other hg.len hkn (hlen i) hf (by omega)]

end Lg
end Go.Proofs.Ytoocifoglhhnmaa
