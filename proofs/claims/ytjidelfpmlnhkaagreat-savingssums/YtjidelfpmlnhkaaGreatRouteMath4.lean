/- Plain mathematics behind the document's answer for routes: a trip's distance is its tour's. No program is named here. -/
import Derived.Test.YtjidelfpmlnhkaaGreatRouteMath2
set_option linter.unusedVariables false
namespace Rt
open Ld
section
variable {N : Int} {D T : List Int}
theorem fin_goes (st : Int) (l : List O) : (fin N D T ⟨0, st, 0⟩ l).node = Ar.lastOf 0 (l.map O.node) ∧ (fin N D T ⟨0, st, 0⟩ l).dist = Ar.sumX N D (Ar.goes 0 (l.map O.node)) := by
  induction l using Ar.snoc_ind with
  | h0 => exact ⟨rfl, rfl⟩
  | h1 l o ih =>
    rw [fin_snoc, List.map_append]
    show o.node = Ar.lastOf 0 (l.map O.node ++ [o.node]) ∧ (fin N D T ⟨0, st, 0⟩ l).dist + Ar.at2 N D (fin N D T ⟨0, st, 0⟩ l).node o.node = Ar.sumX N D (Ar.goes 0 (l.map O.node ++ [o.node]))
    rw [Ar.lastOf_snoc, Ar.goes_snoc, Ar.sumX_snoc, ih.1, ih.2]
    exact ⟨rfl, rfl⟩
theorem home_tour (st : Int) (l : List O) : (home N D T (fin N D T ⟨0, st, 0⟩ l)).dist = Ar.sumX N D (Ar.tourX (l.map O.node)) := by
  rw [Ar.tourX_eq, Ar.sumX_snoc]
  show (fin N D T ⟨0, st, 0⟩ l).dist + Ar.at2 N D (fin N D T ⟨0, st, 0⟩ l).node 0 = _
  rw [(fin_goes st l).1, (fin_goes st l).2]
theorem tour_of {l : List O} (hok : Ar.okB N D T = true) (hl : ∀ o ∈ l, OOk o N) (h12 : l.length ≤ 100) : (Ar.tourS N D T (l.map O.node)).1 = Ar.sumX N D (Ar.tourX (l.map O.node)) := by
  unfold Ar.tourS
  rw [if_pos (Ar.told_ok hok ((Ar.ins_iff N _).2 fun x hx => by obtain ⟨o, ho, rfl⟩ := List.mem_map.1 hx; exact OOk.has (hl o ho))), if_neg (by rw [List.length_map]; omega)]
/-- what a drive tells, as the document does -/
theorem drive_doc {t0 t1 t2 t3 t4 t5 t6 nd tim dis : Int} {l : List O} (hf : fin N D T ⟨0, t3, 0⟩ l = ⟨nd, tim, dis⟩) {late : Bool} (hlate : late = !inTime N D T ⟨0, t3, 0⟩ l) :
    (late = true ∨ t4 < tim + Ar.at2 N T nd 0 → driveS N D T ⟨t0, t1, t2, t3, t4, t5, t6⟩ l = err 10) ∧
    (late = false → ¬ t4 < tim + Ar.at2 N T nd 0 → driveS N D T ⟨t0, t1, t2, t3, t4, t5, t6⟩ l = ⟨visits N D T ⟨0, t3, 0⟩ l, tim + Ar.at2 N T nd 0, Ar.sumX N D (Ar.tourX (l.map O.node)), t5 + t6 * Ar.sumX N D (Ar.tourX (l.map O.node)), 0⟩) := by
  refine ⟨fun h => ?_, fun h1 h2 => ?_⟩
  · rcases h with h | h
    · rw [h] at hlate
      exact drive_late (by cases e : inTime N D T ⟨0, t3, 0⟩ l <;> rw [e] at hlate <;> simp_all)
    · exact drive_back (s := ⟨nd, tim, dis⟩) hf (by show ¬ tim + Ar.at2 N T nd 0 ≤ t4; omega)
  · rw [h1] at hlate
    have hi : inTime N D T ⟨0, t3, 0⟩ l = true := by cases e : inTime N D T ⟨0, t3, 0⟩ l <;> rw [e] at hlate <;> simp_all
    have hh := home_tour (N := N) (D := D) (T := T) t3 l
    rw [hf] at hh
    have := drive_ok (t := ⟨t0, t1, t2, t3, t4, t5, t6⟩) (s := ⟨nd, tim, dis⟩) hf hi (by show tim + Ar.at2 N T nd 0 ≤ t4; omega)
    rw [this]
    have hh2 : dis + Ar.at2 N D nd 0 = Ar.sumX N D (Ar.tourX (l.map O.node)) := hh
    simp only [hh2]
theorem map_snoc {l : List O} {i : Nat} {o : O} (h : l[i]? = some o) : (l.take i).map O.node ++ [o.node] = (l.take (i + 1)).map O.node := by
  rw [List.take_add_one, h, List.map_append]
  rfl
theorem take_one {l : List O} {i : Nat} {o : O} (h : l[i]? = some o) : l.take i ++ [o] = l.take (i + 1) := by
  rw [List.take_add_one, h]
  rfl
end
end Rt
