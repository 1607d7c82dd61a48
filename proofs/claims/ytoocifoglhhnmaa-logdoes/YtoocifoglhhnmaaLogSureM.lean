/- What a law on crashes holds: plain mathematics. -/
import Derived.Test.YtoocifoglhhnmaaLogAw
namespace Go.Proofs.Ytoocifoglhhnmaa
set_option linter.unusedVariables false
namespace Lg
open Dk (Bs D)

/-- a log that goes on: its disk is clean -/
structure Goes (n : Nat) (x : L) (d : D) : Prop where
  clean : Clean n d.b x.half x.gen x.recs x.fin
  good : Dk.Good n d
  bro : x.bro = false
/-- behind an error: what opens has these, or those -/
def Stands (n : Nat) (d : D) (sure way : List Bs) : Prop := Dk.Good n d ∧ ∃ half g r e, Opens n d.b half g r e ∧ (r = sure ∨ r = way)

theorem Goes.stands {n : Nat} {x : L} {d : D} (h : Goes n x d) (way : List Bs) : Stands n d x.recs way := ⟨h.good, _, _, _, _, h.clean.toOpens, .inl rfl⟩

theorem app_step {n : Nat} {x : L} {d : D} {b : Bs} (h : Goes n x d) :
    ((appS n d x b).2.1 = 0 ∧ Goes n (appS n d x b).2.2 (appS n d x b).1 ∧ (appS n d x b).2.2.recs = x.recs ++ [b]) ∨
    (((appS n d x b).2.1 = 1 ∨ (appS n d x b).2.1 = 4) ∧ (appS n d x b).1 = d ∧ (appS n d x b).2.2 = x) ∨
    ((appS n d x b).2.1 = 7 ∧ Stands n (appS n d x b).1 x.recs (x.recs ++ [b])) := by
  unfold appS
  rw [if_neg (by rw [h.bro]; decide)]
  by_cases h1 : 200 < b.length
  · rw [if_pos h1]; exact .inr (.inl ⟨.inl rfl, rfl, rfl⟩)
  rw [if_neg h1]
  by_cases h2 : n / 2 - x.fin < secs b.length
  · rw [if_pos h2]; exact .inr (.inl ⟨.inr rfl, rfl, rfl⟩)
  rw [if_neg h2]
  have hfin := h.clean.fin
  have hq := secs_pos b.length
  obtain ⟨i1, i2, i3, i4⟩ := append_keeps h.good h.clean (r := b) (by omega) (by omega)
  unfold appEnd
  generalize layS n (start n x.half + x.fin) (recd b x.gen x.recs.length) (secs b.length - 1) 1 d = q at *
  by_cases hc : q.2 = 0
  · rw [if_pos hc]
    exact .inl ⟨rfl, ⟨i3 hc, i1, h.bro⟩, rfl⟩
  · rw [if_neg hc]
    refine .inr (.inr ⟨by rcases i2 with e | e; exact absurd e hc; exact e, i1, ?_⟩)
    rcases i4 hc with hh | hh
    · exact ⟨_, _, _, _, hh, .inl rfl⟩
    · exact ⟨_, _, _, _, hh, .inr rfl⟩

theorem only_step {n : Nat} {x : L} {d : D} {rs : List Bs} (h : Goes n x d) :
    ((onlyS n d x rs).2.1 = 0 ∧ Goes n (onlyS n d x rs).2.2 (onlyS n d x rs).1 ∧ (onlyS n d x rs).2.2.recs = rs) ∨
    (((onlyS n d x rs).2.1 = 1 ∨ (onlyS n d x rs).2.1 = 4) ∧ (onlyS n d x rs).1 = d ∧ (onlyS n d x rs).2.2 = x) ∨
    ((onlyS n d x rs).2.1 = 7 ∧ Stands n (onlyS n d x rs).1 x.recs rs) := by
  unfold onlyS
  rw [if_neg (by rw [h.bro]; decide)]
  by_cases h1 : bigB rs = true
  · rw [if_pos h1]; exact .inr (.inl ⟨.inl rfl, rfl, rfl⟩)
  rw [if_neg h1]
  by_cases h2 : n / 2 < 1 + sumSecs rs
  · rw [if_pos h2]; exact .inr (.inl ⟨.inr rfl, rfl, rfl⟩)
  rw [if_neg h2]
  by_cases h3 : x.gen = 2147483647
  · rw [if_pos h3]; exact .inr (.inl ⟨.inr rfl, rfl, rfl⟩)
  rw [if_neg h3]
  have hg1 := h.clean.g1
  obtain ⟨i1, i2, i3, i4⟩ := fill_keeps h.good h.clean.toOpens (rs := rs) (by omega) (bigB_false (Bool.eq_false_iff.2 h1)) (by omega)
  unfold onlyEnd
  generalize fillS n (start n (1 - x.half)) (n / 2) (x.gen + 1) rs d = q at *
  by_cases hc : q.2 = 0
  · rw [if_pos hc]
    exact .inl ⟨rfl, ⟨i3 hc, i1, rfl⟩, rfl⟩
  · rw [if_neg hc]
    refine .inr (.inr ⟨by rcases i2 with e | e; exact absurd e hc; exact e, i1, ?_⟩)
    rcases i4 hc with hh | hh
    · exact ⟨_, _, _, _, hh, .inl rfl⟩
    · exact ⟨_, _, _, _, hh, .inr rfl⟩

theorem Goes.fuse {n : Nat} {x : L} {d : D} (h : Goes n x d) (a c : Int) (h0 : -9223372036854775808 ≤ a) (h1 : a ≤ 9223372036854775807) : Goes n x (Dk.fuseTo d a c) := ⟨h.clean, Dk.fuse_good h.good a c h0 h1, h.bro⟩

/-! writes -/
theorem app_writes (n : Nat) (d : D) (x : L) (b : Bs) : (appS n d x b).1.writes ≤ d.writes + 7 := by
  unfold appS
  split
  · simp only; omega
  split
  · simp only; omega
  split
  · simp only; omega
  · have h1 := layS_writes n (start n x.half + x.fin) (recd b x.gen x.recs.length) (secs b.length - 1) 1 d
    have h2 := secs_le b.length (by omega)
    unfold appEnd
    split <;> simp only <;> omega
theorem only_writes (n : Nat) (d : D) (x : L) (rs : List Bs) : (onlyS n d x rs).1.writes ≤ d.writes + n := by
  unfold onlyS
  split
  · simp only; omega
  split
  · simp only; omega
  split
  · simp only; omega
  split
  · simp only; omega
  · have h1 := fillS_writes n (start n (1 - x.half)) (n / 2) (x.gen + 1) rs d
    unfold onlyEnd
    split <;> simp only <;> omega
theorem open_writes {n : Nat} {d : D} {half g : Nat} {recs : List Bs} {e : Nat} (h : Opens n d.b half g recs e) : (openQ n d).1.writes ≤ d.writes + n := by
  rw [h.open_]
  have := wipeS_writes n (start n half) e (n / 2) d
  simp only
  omega

/-- it opens, whatever the fuse -/
theorem Stands.opens {n : Nat} {d : D} {sure way : List Bs} (h : Stands n d sure way) (hw : d.writes ≤ 100000) :
    Stands n (openQ n d).1 sure way ∧ ((openQ n d).2.1 = 0 ∨ (openQ n d).2.1 = 7) ∧ ((openQ n d).2.2.recs = sure ∨ (openQ n d).2.2.recs = way) ∧ (openQ n d).1.writes ≤ d.writes + n := by
  obtain ⟨hg, half, g, r, e, ho, hr⟩ := h
  obtain ⟨k1, k2, k3, k4, k5⟩ := open_keeps hg ho
  exact ⟨⟨k2, half, g, r, e, k4, hr⟩, k3, by rw [k1]; exact hr, open_writes ho⟩
theorem Stands.crash {n : Nat} {d : D} {sure way : List Bs} (h : Stands n d sure way) : Stands n (Dk.crash d) sure way := by
  obtain ⟨hg, half, g, r, e, ho, hr⟩ := h
  exact ⟨Dk.crash_good hg, half, g, r, e, ho, hr⟩
theorem Stands.fuse {n : Nat} {d : D} {sure way : List Bs} (h : Stands n d sure way) (a c : Int) (h0 : -9223372036854775808 ≤ a) (h1 : a ≤ 9223372036854775807) : Stands n (Dk.fuseTo d a c) sure way := by
  obtain ⟨hg, half, g, r, e, ho, hr⟩ := h
  exact ⟨Dk.fuse_good hg a c h0 h1, half, g, r, e, ho, hr⟩
/-- behind a crash it opens, and opens again as the same -/
theorem Stands.last {n : Nat} {d : D} {sure way : List Bs} (h : Stands n d sure way) :
    (openQ n (Dk.crash d)).2.1 = 0 ∧ ((openQ n (Dk.crash d)).2.2.recs = sure ∨ (openQ n (Dk.crash d)).2.2.recs = way) ∧ (openQ n (Dk.crash d)).1.writes ≤ d.writes + n ∧
    (openQ n (openQ n (Dk.crash d)).1).2.1 = 0 ∧ (openQ n (openQ n (Dk.crash d)).1).2.2 = (openQ n (Dk.crash d)).2.2 := by
  obtain ⟨hg, half, g, r, e, ho, hr⟩ := h.crash
  have hst := start_le (n := n) ho.hf
  have hf : Fine (Dk.crash d) := ⟨rfl, by show (-1 : Int) < 0; decide⟩
  obtain ⟨k1, k2, k3, k4, k5⟩ := open_keeps hg ho
  have hc : (openQ n (Dk.crash d)).2.1 = 0 ∧ Fine (openQ n (Dk.crash d)).1 := by rw [ho.open_]; exact wipe_fine (n / 2) hf (by omega)
  obtain ⟨j1, j2, j3, j4, j5⟩ := open_keeps k2 k4
  have hc2 : (openQ n (openQ n (Dk.crash d)).1).2.1 = 0 := by rw [k4.open_]; exact (wipe_fine (n / 2) hc.2 (by omega)).1
  exact ⟨hc.1, by rw [k1]; exact hr, open_writes ho, hc2, by rw [j1, k1]⟩

end Lg
end Go.Proofs.Ytoocifoglhhnmaa
