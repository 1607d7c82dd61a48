/- What an Open, an Append and an Only leave of a disk, with and without an error: plain mathematics. -/
import Derived.Test.YtoocifoglhhnmaaLogInv
namespace Go.Proofs.Ytoocifoglhhnmaa
set_option linter.unusedVariables false
namespace Lg
open Dk (Bs D)

structure Clean (n : Nat) (b : Bs) (half g : Nat) (recs : List Bs) (e : Nat) : Prop extends Opens n b half g recs e where
  zero : ∀ a, e ≤ a → a < n / 2 → Dk.sec b (start n half + a) = zeros 32

theorem laid_ge {b : Bs} {s g : Nat} {rs : List Bs} {a p e : Nat} (h : LaidAt b s g rs a p e) : a ≤ e := by have := laid_end h; omega
theorem start_cases {n half : Nat} (h : half ≤ 1) : (half = 0 ∧ start n half = 0 ∧ start n (1 - half) = n / 2) ∨ (half = 1 ∧ start n half = n / 2 ∧ start n (1 - half) = 0) := by
  have : half = 0 ∨ half = 1 := by omega
  rcases this with rfl | rfl
  · exact .inl ⟨rfl, start_zero n, start_one n⟩
  · exact .inr ⟨rfl, start_one n, start_zero n⟩
/-- sectors of one half are none of the other's -/
theorem halves {n half a c : Nat} (h : half ≤ 1) (ha : a < n / 2) (hc : c < n / 2) : start n half + a ≠ start n (1 - half) + c := by
  rcases start_cases (n := n) h with ⟨_, e1, e2⟩ | ⟨_, e1, e2⟩ <;> omega

/-- what touches only sectors from the end on, of its own half, and lets the first of them be none, lets what opens be -/
theorem Opens.keep {n : Nat} {b b' : Bs} {half g : Nat} {recs : List Bs} {e : Nat} (h : Opens n b half g recs e) (hl : b'.length = 32 * n) (hk : ∀ a, a < e → Dk.sec b' (start n half + a) = Dk.sec b (start n half + a)) (hs : e < n / 2 → lastB b' (start n half + e) ≠ 165)
    (hlow : lastB b' (start n (1 - half)) ≠ 165 ∨ num ((Dk.sec b' (start n (1 - half))).take 4) < g) : Opens n b' half g recs e := by
  have h1 := laid_ge h.laid
  refine ⟨hl, h.n4, h.hf, h.g0, h.g1, ?_, laid_congr h.laid (fun k k1 k2 => ?_), h.fin, hs, hlow⟩
  · have := hk 0 (by omega)
    rw [Nat.add_zero] at this
    rw [this]
    exact h.hd
  · have := hk (k - start n half) (by omega)
    rw [show start n half + (k - start n half) = k by omega] at this
    exact this
theorem Opens.low_same {n : Nat} {b b' : Bs} {half g : Nat} {recs : List Bs} {e : Nat} (h : Opens n b half g recs e) (hk : Dk.sec b' (start n (1 - half)) = Dk.sec b (start n (1 - half))) : lastB b' (start n (1 - half)) ≠ 165 ∨ num ((Dk.sec b' (start n (1 - half))).take 4) < g := by
  unfold lastB
  rw [hk]
  exact h.low

theorem open_keeps {n : Nat} {d : D} {half g : Nat} {recs : List Bs} {e : Nat} (hg : Dk.Good n d) (h : Opens n d.b half g recs e) :
    (openQ n d).2.2 = ⟨half, g, recs, e, false⟩ ∧ Dk.Good n (openQ n d).1 ∧ ((openQ n d).2.1 = 0 ∨ (openQ n d).2.1 = 7) ∧ Opens n (openQ n d).1.b half g recs e ∧ ((openQ n d).2.1 = 0 → Clean n (openQ n d).1.b half g recs e) := by
  have hst := start_le (n := n) h.hf
  have hn4 := h.n4
  have h1 := laid_ge h.laid
  have hfin := h.fin
  obtain ⟨i1, i2, i3, i4, i5⟩ := wipe_bytes (s := start n half) (to := e) (n / 2) hg (by omega)
  rw [h.open_]
  have ho : Opens n (wipeS n (start n half) e (n / 2) d).1.b half g recs e := by
    refine h.keep i1.len (fun a ha => i3 _ (by omega)) (fun he => ?_) (h.low_same (i3 _ ?_))
    · have hk : start n half + e < n := by omega
      rcases zed_last hg.len hk (i4 (start n half + e)) with hz | hz
      · rw [hz]; exact h.stop he
      · rw [hz]; decide
    · rcases start_cases (n := n) h.hf with ⟨_, e1, e2⟩ | ⟨_, e1, e2⟩ <;> omega
  exact ⟨rfl, i1, i2, ho, fun hc => ⟨ho, fun a h1 h2 => i5 hc _ (by omega) (by omega)⟩⟩

theorem secs_sec {r : Bs} {g p : Nat} (j : Nat) : (Dk.sec (recd r g p) j).length ≤ 32 := by unfold Dk.sec; rw [List.length_take]; omega
theorem secs_sec' {r : Bs} {g p j : Nat} (h : j < secs r.length) : (Dk.sec (recd r g p) j).length = 32 := Dk.sec_len (n := secs r.length) (recd_len r g p) h

/-- a record is laid behind the end -/
theorem append_keeps {n : Nat} {d : D} {half g : Nat} {recs : List Bs} {e : Nat} {r : Bs} (hg : Dk.Good n d) (h : Clean n d.b half g recs e) (hr : r.length ≤ 200) (hf : e + secs r.length ≤ n / 2) :
    Dk.Good n (layS n (start n half + e) (recd r g recs.length) (secs r.length - 1) 1 d).1 ∧ ((layS n (start n half + e) (recd r g recs.length) (secs r.length - 1) 1 d).2 = 0 ∨ (layS n (start n half + e) (recd r g recs.length) (secs r.length - 1) 1 d).2 = 7) ∧
    ((layS n (start n half + e) (recd r g recs.length) (secs r.length - 1) 1 d).2 = 0 → Clean n (layS n (start n half + e) (recd r g recs.length) (secs r.length - 1) 1 d).1.b half g (recs ++ [r]) (e + secs r.length)) ∧
    ((layS n (start n half + e) (recd r g recs.length) (secs r.length - 1) 1 d).2 ≠ 0 → Opens n (layS n (start n half + e) (recd r g recs.length) (secs r.length - 1) 1 d).1.b half g recs e ∨ Opens n (layS n (start n half + e) (recd r g recs.length) (secs r.length - 1) 1 d).1.b half g (recs ++ [r]) (e + secs r.length)) := by
  have hst := start_le (n := n) h.hf
  have hq := secs_pos r.length
  have h1 := laid_ge h.laid
  obtain ⟨i1, i2, i3, i4, i5⟩ := lay_bytes (n := n) (k := start n half + e) (l := recd r g recs.length) secs_sec (secs r.length - 1) 1 hg (by omega) (by omega) (fun j hj => secs_sec' (by omega))
  generalize hQ : layS n (start n half + e) (recd r g recs.length) (secs r.length - 1) 1 d = q at *
  have hsame : ∀ a, a < e → Dk.sec q.1.b (start n half + a) = Dk.sec d.b (start n half + a) := fun a ha => i3 _ (by omega)
  have hother : Dk.sec q.1.b (start n (1 - half)) = Dk.sec d.b (start n (1 - half)) := i3 _ (by rcases start_cases (n := n) h.hf with ⟨_, e1, e2⟩ | ⟨_, e1, e2⟩ <;> omega)
  have hbeh : ∀ a, e + secs r.length ≤ a → a < n / 2 → Dk.sec q.1.b (start n half + a) = zeros 32 := fun a h2 h3 => (i3 _ (by omega)).trans (h.zero a (by omega) h3)
  have hall : (Dk.sec q.1.b (start n half + e) = Dk.sec (recd r g recs.length) 0 ∧ ∀ j, 1 ≤ j → j < 1 + (secs r.length - 1) → Dk.sec q.1.b (start n half + e + j) = Dk.sec (recd r g recs.length) j) → Opens n q.1.b half g (recs ++ [r]) (e + secs r.length) := fun hh => by
    have hcut : cut q.1.b (start n half + e) (secs r.length) = recd r g recs.length := by
      rw [← cut_all (recd_len r g recs.length)]
      refine cut_congr _ (fun i hi => ?_)
      rw [Nat.zero_add]
      by_cases e0 : i = 0
      · subst e0; rw [Nat.add_zero]; exact hh.1
      · exact hh.2 i (by omega) (by omega)
    have hl := laid_congr h.laid (b' := q.1.b) (fun k k1 k2 => by
      have := hsame (k - start n half) (by omega)
      rw [show start n half + (k - start n half) = k by omega] at this
      exact this)
    refine ⟨i1.len, h.n4, h.hf, h.g0, h.g1, ?_, laid_snoc hr hl (by rw [Nat.zero_add]; exact hcut), hf, fun hlt => last_zero (hbeh _ (Nat.le_refl _) hlt), h.toOpens.low_same hother⟩
    have := hsame 0 (by omega)
    rw [Nat.add_zero] at this
    rw [this]; exact h.hd
  refine ⟨i1, i2, fun hc => ⟨hall (i4 hc), hbeh⟩, fun hc => ?_⟩
  rcases i5 hc with hx | hx
  · left
    refine h.toOpens.keep i1.len hsame (fun he => ?_) (h.toOpens.low_same hother)
    rw [hx]
    exact last_zero (h.zero e (Nat.le_refl _) he)
  · exact .inr (hall hx)

/-- the other half while it is filled -/
structure Mid (n : Nat) (b : Bs) (half g : Nat) (recs : List Bs) (e : Nat) (done : List Bs) (a : Nat) : Prop where
  old : Opens n b half g recs e
  nul : Dk.sec b (start n (1 - half)) = zeros 32
  laid : LaidAt b (start n (1 - half)) (g + 1) done 1 0 a
  zer : ∀ c, a ≤ c → c < n / 2 → Dk.sec b (start n (1 - half) + c) = zeros 32

theorem fillR_keeps {n half g : Nat} {recs : List Bs} {e : Nat} (hgm : g + 1 ≤ 2147483647) : ∀ (rs : List Bs) {d : D} {done : List Bs} {a : Nat}, Dk.Good n d → Mid n d.b half g recs e done a → (∀ r ∈ rs, r.length ≤ 200) → a + sumSecs rs ≤ n / 2 →
    Dk.Good n (fillR n (start n (1 - half)) (g + 1) rs a done.length d).1 ∧ ((fillR n (start n (1 - half)) (g + 1) rs a done.length d).2 = 0 ∨ (fillR n (start n (1 - half)) (g + 1) rs a done.length d).2 = 7) ∧
    ((fillR n (start n (1 - half)) (g + 1) rs a done.length d).2 = 0 → Clean n (fillR n (start n (1 - half)) (g + 1) rs a done.length d).1.b (1 - half) (g + 1) (done ++ rs) (a + sumSecs rs)) ∧
    ((fillR n (start n (1 - half)) (g + 1) rs a done.length d).2 ≠ 0 → Opens n (fillR n (start n (1 - half)) (g + 1) rs a done.length d).1.b half g recs e ∨ Opens n (fillR n (start n (1 - half)) (g + 1) rs a done.length d).1.b (1 - half) (g + 1) (done ++ rs) (a + sumSecs rs))
  | [], d, done, a, hg, hM, _, hf => by
    have hst := start_le (n := n) (half := 1 - half) (by omega)
    have hn4 := hM.old.n4
    have hkn : start n (1 - half) < n := by omega
    have ha1 := laid_ge hM.laid
    unfold fillR
    simp only [sumSecs, Nat.add_zero, List.append_nil] at hf ⊢
    have hother : ∀ f, f ≤ 32 → ∀ c, c < n / 2 → Dk.sec (Dk.lay d.b (start n (1 - half)) (head (g + 1)) f) (start n half + c) = Dk.sec d.b (start n half + c) := fun f hf c hc => Dk.sec_lay_other hg.len hkn (by rw [head_len]; omega) hf (by have := halves (n := n) hM.old.hf hc (show 0 < n / 2 by omega); omega)
    have hown : ∀ f, f ≤ 32 → ∀ c, 1 ≤ c → Dk.sec (Dk.lay d.b (start n (1 - half)) (head (g + 1)) f) (start n (1 - half) + c) = Dk.sec d.b (start n (1 - half) + c) := fun f hf c hc => Dk.sec_lay_other hg.len hkn (by rw [head_len]; omega) hf (by omega)
    have hnew : Dk.lay d.b (start n (1 - half)) (head (g + 1)) 32 = (wr n d (start n (1 - half)) (head (g + 1))).1.b → Clean n (wr n d (start n (1 - half)) (head (g + 1))).1.b (1 - half) (g + 1) done a := fun hb => by
      have hz : ∀ c, a ≤ c → c < n / 2 → Dk.sec (wr n d (start n (1 - half)) (head (g + 1))).1.b (start n (1 - half) + c) = zeros 32 := fun c h1 h2 => by rw [← hb, hown 32 (by omega) c (by omega)]; exact hM.zer c h1 h2
      refine ⟨⟨(wr_good hg _ _).len, hn4, by omega, by omega, hgm, ?_, laid_congr hM.laid (fun k k1 k2 => ?_), hf, fun h => last_zero (hz a (Nat.le_refl _) h), .inr ?_⟩, hz⟩
      · rw [← hb, sec_lay_full hg.len hkn (by rw [head_len]; omega), fill_full (head_len _)]
      · rw [← hb]
        have := hown 32 (by omega) (k - start n (1 - half)) (by omega)
        rw [show start n (1 - half) + (k - start n (1 - half)) = k by omega] at this
        exact this
      · have e1 : 1 - (1 - half) = half := by have := hM.old.hf; omega
        have h0 := hother 32 (by omega) 0 (by omega)
        simp only [Nat.add_zero] at h0
        rw [e1, ← hb, h0, hM.old.hd, head_take4, num_be _ _ (by have := hM.old.g1; omega)]
        omega
    rcases wr_bytes hg hkn (l := head (g + 1)) (by rw [head_len]; omega) with ⟨hc, hb⟩ | ⟨hc, f, hf32, hb⟩
    · exact ⟨wr_good hg _ _, .inl hc, fun _ => hnew hb.symm, fun h => absurd hc h⟩
    · refine ⟨wr_good hg _ _, .inr hc, (fun h => by rw [hc] at h; cases h), fun _ => ?_⟩
      by_cases ef : f = 32
      · subst ef; exact .inr (hnew hb.symm).toOpens
      · left
        have hfin := hM.old.fin
        refine hM.old.keep (wr_good hg _ _).len (fun c hc' => by rw [hb]; exact hother f hf32 c (by omega)) (fun he => ?_) (.inl ?_)
        · unfold lastB; rw [hb, hother f hf32 e he]; exact hM.old.stop he
        · rw [hb, lastB_lay hg.len hkn (by rw [head_len]; omega) (by omega)]; exact last_zero hM.nul
  | r :: rs, d, done, a, hg, hM, hl, hf => by
    have hst := start_le (n := n) (half := 1 - half) (by omega)
    have hn4 := hM.old.n4
    have hq := secs_pos r.length
    have hr := hl r (by simp)
    have ha1 := laid_ge hM.laid
    simp only [sumSecs] at hf ⊢
    obtain ⟨i1, i2, i3, i4, i5⟩ := lay_bytes (n := n) (k := start n (1 - half) + a) (l := recd r (g + 1) done.length) secs_sec (secs r.length - 1) 1 hg (by omega) (by omega) (fun j hj => secs_sec' (by omega))
    unfold fillR
    generalize hQ : layS n (start n (1 - half) + a) (recd r (g + 1) done.length) (secs r.length - 1) 1 d = q at *
    have hother : ∀ c, c < n / 2 → Dk.sec q.1.b (start n half + c) = Dk.sec d.b (start n half + c) := fun c hc => i3 _ (by rcases start_cases (n := n) hM.old.hf with ⟨_, e1, e2⟩ | ⟨_, e1, e2⟩ <;> omega)
    have hnul : Dk.sec q.1.b (start n (1 - half)) = zeros 32 := (i3 _ (by omega)).trans hM.nul
    have hfin := hM.old.fin
    have hold : Opens n q.1.b half g recs e := hM.old.keep i1.len (fun c hc => hother c (by omega)) (fun he => by unfold lastB; rw [hother e he]; exact hM.old.stop he) (.inl (last_zero hnul))
    by_cases hc : q.2 = 0
    · rw [if_pos hc]
      have hM2 : Mid n q.1.b half g recs e (done ++ [r]) (a + secs r.length) := by
        have hh := i4 hc
        have hcut : cut q.1.b (start n (1 - half) + a) (secs r.length) = recd r (g + 1) done.length := by
          rw [← cut_all (recd_len r (g + 1) done.length)]
          refine cut_congr _ (fun i hi => ?_)
          rw [Nat.zero_add]
          by_cases e0 : i = 0
          · subst e0; rw [Nat.add_zero]; exact hh.1
          · exact hh.2 i (by omega) (by omega)
        refine ⟨hold, hnul, laid_snoc hr (laid_congr hM.laid (fun k k1 k2 => i3 _ (by omega))) (by rw [Nat.zero_add]; exact hcut), fun c h1 h2 => (i3 _ (by omega)).trans (hM.zer c (by omega) h2)⟩
      have := fillR_keeps hgm rs i1 hM2 (fun x hx => hl x (by simp [hx])) (by omega)
      rw [List.length_append, List.length_singleton, List.append_assoc, List.singleton_append, Nat.add_assoc] at this
      exact this
    · rw [if_neg hc]
      exact ⟨i1, i2, fun h => absurd h hc, fun _ => .inl hold⟩

theorem fill_keeps {n : Nat} {d : D} {half g : Nat} {recs : List Bs} {e : Nat} {rs : List Bs} (hg : Dk.Good n d) (h : Opens n d.b half g recs e) (hgm : g + 1 ≤ 2147483647) (hl : ∀ r ∈ rs, r.length ≤ 200) (hf : 1 + sumSecs rs ≤ n / 2) :
    Dk.Good n (fillS n (start n (1 - half)) (n / 2) (g + 1) rs d).1 ∧ ((fillS n (start n (1 - half)) (n / 2) (g + 1) rs d).2 = 0 ∨ (fillS n (start n (1 - half)) (n / 2) (g + 1) rs d).2 = 7) ∧
    ((fillS n (start n (1 - half)) (n / 2) (g + 1) rs d).2 = 0 → Clean n (fillS n (start n (1 - half)) (n / 2) (g + 1) rs d).1.b (1 - half) (g + 1) rs (1 + sumSecs rs)) ∧
    ((fillS n (start n (1 - half)) (n / 2) (g + 1) rs d).2 ≠ 0 → Opens n (fillS n (start n (1 - half)) (n / 2) (g + 1) rs d).1.b half g recs e ∨ Opens n (fillS n (start n (1 - half)) (n / 2) (g + 1) rs d).1.b (1 - half) (g + 1) rs (1 + sumSecs rs)) := by
  have hst := start_le (n := n) (half := 1 - half) (by omega)
  have hn4 := h.n4
  have hfin := h.fin
  obtain ⟨i1, i2, i3, i4, i5⟩ := wipe_bytes (s := start n (1 - half)) (to := 0) (n / 2) hg (by omega)
  unfold fillS
  generalize wipeS n (start n (1 - half)) 0 (n / 2) d = q at *
  have hother : ∀ c, c < n / 2 → Dk.sec q.1.b (start n half + c) = Dk.sec d.b (start n half + c) := fun c hc => i3 _ (by rcases start_cases (n := n) h.hf with ⟨_, e1, e2⟩ | ⟨_, e1, e2⟩ <;> omega)
  have hold : Opens n q.1.b half g recs e := by
    refine h.keep i1.len (fun c hc => hother c (by omega)) (fun he => by unfold lastB; rw [hother e he]; exact h.stop he) ?_
    have hk : start n (1 - half) < n := by omega
    rcases h.low with hw | hw
    · left
      rcases zed_last hg.len hk (i4 (start n (1 - half))) with hz | hz
      · rw [hz]; exact hw
      · rw [hz]; decide
    · right
      have := zed_num hg.len hk (i4 (start n (1 - half)))
      omega
  by_cases hc : q.2 = 0
  · rw [if_pos hc]
    have hz : ∀ c, c < n / 2 → Dk.sec q.1.b (start n (1 - half) + c) = zeros 32 := fun c hc' => i5 hc _ (by omega) (by omega)
    have hM : Mid n q.1.b half g recs e [] 1 := ⟨hold, by have := hz 0 (by omega); rw [Nat.add_zero] at this; exact this, rfl, fun c h1 h2 => hz c h2⟩
    have := fillR_keeps hgm rs i1 hM hl hf
    rw [List.nil_append] at this
    exact this
  · rw [if_neg hc]
    exact ⟨i1, i2, fun h => absurd h hc, fun _ => .inl hold⟩

/-! with power, and no fuse, no write has an error -/
def Fine (d : D) : Prop := d.up = true ∧ d.fuse < 0
theorem wr_fine {n : Nat} {d : D} (h : Fine d) {k : Nat} (hk : k < n) {l : Bs} (hl : l.length ≤ 32) : (wr n d k l).2 = 0 ∧ Fine (wr n d k l).1 := by
  have h1 : ¬ Dk.has n (k : Int) = false := by simp [Dk.has]; omega
  have h2 : ¬ 32 < l.length := by omega
  have h3 : ¬ d.up = false := by rw [h.1]; decide
  have h4 : ¬ d.fuse = 0 := by have := h.2; omega
  have h5 : ¬ 0 < d.fuse := by have := h.2; omega
  unfold wr Dk.wcode Dk.wstate Fine
  simp only [if_neg h1, if_neg h2, if_neg h3, if_neg h4, if_neg h5]
  exact ⟨trivial, h⟩
theorem wipe_fine {n s to : Nat} : ∀ (m : Nat) {d : D}, Fine d → s + m ≤ n → (wipeS n s to m d).2 = 0 ∧ Fine (wipeS n s to m d).1
  | 0, d, h, _ => ⟨rfl, h⟩
  | m + 1, d, h, hm => by
    unfold wipeS
    split
    · exact ⟨rfl, h⟩
    split
    · exact wipe_fine m h (by omega)
    · obtain ⟨h1, h2⟩ := wr_fine (n := n) h (show s + m < n by omega) (l := []) (by simp)
      rw [if_pos h1]
      exact wipe_fine m h2 (by omega)
theorem lay_fine {n k : Nat} {l : Bs} : ∀ (r i : Nat) {d : D}, Fine d → k + i + r ≤ n → k < n → (layS n k l r i d).2 = 0 ∧ Fine (layS n k l r i d).1
  | 0, i, d, h, _, hk => wr_fine h hk (by unfold Dk.sec; rw [List.length_take]; omega)
  | r + 1, i, d, h, hn, hk => by
    unfold layS
    obtain ⟨h1, h2⟩ := wr_fine (n := n) h (show k + i < n by omega) (l := Dk.sec l i) (by unfold Dk.sec; rw [List.length_take]; omega)
    rw [if_pos h1]
    exact lay_fine r (i + 1) h2 (by omega) hk
theorem fillR_fine {n s g : Nat} : ∀ (rs : List Bs) (a p : Nat) {d : D}, Fine d → s + a + sumSecs rs ≤ n → s < n → (fillR n s g rs a p d).2 = 0 ∧ Fine (fillR n s g rs a p d).1
  | [], a, p, d, h, _, hs => wr_fine h hs (by rw [head_len]; omega)
  | r :: rs, a, p, d, h, hn, hs => by
    unfold fillR
    simp only [sumSecs] at hn
    have hq := secs_pos r.length
    obtain ⟨h1, h2⟩ := lay_fine (n := n) (k := s + a) (l := recd r g p) (secs r.length - 1) 1 h (by omega) (by omega)
    rw [if_pos h1]
    exact fillR_fine rs _ _ h2 (by omega) hs
theorem fill_fine {n s size g : Nat} {rs : List Bs} {d : D} (h : Fine d) (h1 : s + size ≤ n) (h2 : 1 + sumSecs rs ≤ size) : (fillS n s size g rs d).2 = 0 ∧ Fine (fillS n s size g rs d).1 := by
  unfold fillS
  obtain ⟨i1, i2⟩ := wipe_fine (n := n) (s := s) (to := 0) size h h1
  rw [if_pos i1]
  exact fillR_fine rs 1 0 i2 (by omega) (by omega)

theorem zeros_sec {n k : Nat} (hk : k < n) : Dk.sec (List.replicate (32 * n) 0) k = zeros 32 := by
  unfold Dk.sec zeros
  rw [List.drop_replicate, List.take_replicate]
  congr 1
  omega

/-- a new disk opens -/
theorem open_fresh {n : Nat} (hn : 4 ≤ n) : (openQ n (Dk.fresh n)).2.1 = 0 ∧ (openQ n (Dk.fresh n)).2.2 = ⟨0, 1, [], 1, false⟩ ∧ Dk.Good n (openQ n (Dk.fresh n)).1 ∧ Fine (openQ n (Dk.fresh n)).1 ∧ Clean n (openQ n (Dk.fresh n)).1.b 0 1 [] 1 := by
  have hg := Dk.fresh_good n
  have hf : Fine (Dk.fresh n) := ⟨rfl, by show (-1 : Int) < 0; decide⟩
  have hz : ∀ k, k < n → Dk.sec (Dk.fresh n).b k = zeros 32 := fun k hk => zeros_sec hk
  have g0 : ∀ k, k < n → genOf (Dk.fresh n).b k = 0 := fun k hk => genOf_lo (by rw [hz k hk]; decide)
  have hch : chooseQ n (Dk.fresh n) = ((wr n (Dk.fresh n) 0 (head 1)).1, (wr n (Dk.fresh n) 0 (head 1)).2, 1, 0) := by
    unfold chooseQ
    rw [g0 0 (by omega), g0 (n / 2) (by omega), if_neg (by omega), if_neg (by omega), if_neg ?_]
    rw [isNewB_true.2 ⟨fun a h1 h2 => hz _ (by omega), by rw [hz 0 (by omega)]; decide⟩]
    decide
  obtain ⟨w1, w2⟩ := wr_fine (n := n) hf (k := 0) (by omega) (l := head 1) (by rw [head_len]; omega)
  have hgd := wr_good hg 0 (head 1)
  have hb : (wr n (Dk.fresh n) 0 (head 1)).1.b = Dk.lay (Dk.fresh n).b 0 (head 1) 32 := by
    rcases wr_bytes hg (show 0 < n by omega) (l := head 1) (by rw [head_len]; omega) with ⟨_, h⟩ | ⟨h, _⟩
    · exact h
    · rw [w1] at h; cases h
  have ho : ∀ k, k ≠ 0 → k < n → Dk.sec (wr n (Dk.fresh n) 0 (head 1)).1.b k = zeros 32 := fun k h1 h2 => by rw [hb, Dk.sec_lay_other hg.len (by omega) (by rw [head_len]; omega) (by omega) h1]; exact hz k h2
  have hOp : Opens n (wr n (Dk.fresh n) 0 (head 1)).1.b 0 1 [] 1 := by
    refine ⟨hgd.len, hn, by omega, by omega, by omega, ?_, rfl, by omega, fun h => last_zero ?_, .inl (last_zero ?_)⟩
    · rw [start_zero, hb, sec_lay_full hg.len (by omega) (by rw [head_len]; omega), fill_full (head_len _)]
    · rw [start_zero]; exact ho _ (by omega) (by omega)
    · rw [show 1 - 0 = 1 from rfl, start_one]; exact ho _ (by omega) (by omega)
  have hE : openQ n (Dk.fresh n) = openQ n (wr n (Dk.fresh n) 0 (head 1)).1 := by
    unfold openQ
    rw [hch, hOp.choose, w1]
  rw [hE]
  obtain ⟨k1, k2, k3, k4, k5⟩ := open_keeps hgd hOp
  have hfi := wipe_fine (n := n) (s := start n 0) (to := 1) (n / 2) w2 (by rw [start_zero]; omega)
  have hc : (openQ n (wr n (Dk.fresh n) 0 (head 1)).1).2.1 = 0 := by rw [hOp.open_]; exact hfi.1
  exact ⟨hc, k1, k2, by rw [hOp.open_]; exact hfi.2, k5 hc⟩

end Lg
end Go.Proofs.Ytoocifoglhhnmaa
