/- Contracts: package pack's reader reads all, and what it panics with is recovered. -/
import Derived.Test.YthncabfeieombaaPackRa
import Derived.Defers
import Derived.Recover
namespace Go.Proofs.Ythncabfeieombaa
open Go.RowKit

theorem assert_nil (w : World) : (Instr.typeAssert .nilIface 20 62 true).run Try.prog w = .ok (.tuple #[.agg #[.int .i64 0], .bool false]) w := by kernel_rfl
theorem assert_fault (x : Int) (w : World) : (Instr.typeAssert (.iface 62 (.agg #[.int .i64 x])) 20 62 true).run Try.prog w = .ok (.tuple #[.agg #[.int .i64 x], .bool true]) w := by kernel_rfl
theorem slots15 : Array.replicate 15 undef = #[undef, undef, undef, undef, undef, undef, undef, undef, undef, undef, undef, undef, undef, undef, undef] := rfl

set_option maxHeartbeats 1000000 in
set_option maxRecDepth 100000 in
theorem catch_idle (p q : Addr) (w : World) :
    CallsD Try.prog 30 #[.pointer (some p), .pointer (some q)] .returning w fun e u' w' => e = .returned (.tuple #[]) ∧ u' = .returning ∧ w.grownBy w' none := by
  refine callsD_of_wpS Try.func30 rfl fun c₀ cs hu => ?_
  apply wpS_seq
  apply wpS_region
  simp [wpOpsS, go_sem, recoverD, hu, Try.ntmps30, Exit.thenS, slots15]
  have ha := assert_nil
  refine wpS_of_wp ?_
  go_wp2
  cases c₀
  simp_all [bodyPostS, results, Try.results30]
  exact grown_alloc _ _ _

/-- a variable of its own: block g, of type t, holds v -/
def Bx (w : World) (g : Nat) (t : TypeId) (v : Value) : Prop := w.heap[g]? = some (.cells #[v] t (0, 0))
theorem Bx.cell {w : World} {g : Nat} {t : TypeId} {v : Value} (h : Bx w g t v) : w.cell? ⟨g, 0, none⟩ = some v := cell_of_row w g 0 _ _ _ h
theorem Bx.fz {w : World} {g : Nat} {t : TypeId} {v : Value} (h : Bx w g t v) : w.frozen? ⟨g, 0, none⟩ = false := by unfold Bx at h; simp [World.frozen?, h]
theorem Bx.lt {w : World} {g : Nat} {t : TypeId} {v : Value} (h : Bx w g t v) : g < w.heap.size := (Array.getElem?_eq_some_iff.1 h).1
theorem Bx.set {w : World} {g : Nat} {t : TypeId} {v : Value} (h : Bx w g t v) (v' : Value) : Bx (w.setCell ⟨g, 0, none⟩ v') g t v' := by
  unfold Bx at h ⊢
  simp [World.setCell, Array.getElem?_modify, h]
theorem Bx.far {w : World} {g : Nat} {t : TypeId} {v : Value} (h : Bx w g t v) {p : Addr} (hp : g ≠ p.block) (v' : Value) : Bx (w.setCell p v') g t v := (Below.heap_setCell w p v' g hp).trans h
theorem Bx.alloc {w : World} {g : Nat} {t : TypeId} {v : Value} (h : Bx w g t v) (o : Obj) : Bx (w.alloc o) g t v := (Below.heap_alloc w o g h.lt).trans h
theorem Bx.drewN {w : World} {g : Nat} {t : TypeId} {v : Value} (h : Bx w g t v) (m : Nat) : Bx (w.drewN m) g t v := h

set_option maxHeartbeats 1000000 in
set_option maxRecDepth 100000 in
theorem catch_fault (g h : Nat) (x : Int) (a b : Value) (w : World) (hg : Bx w g 22 a) (hh : Bx w h 26 b) (hne : g ≠ h) :
    CallsD Try.prog 30 #[.pointer (some ⟨g, 0, none⟩), .pointer (some ⟨h, 0, none⟩)] (.panicking [{ v := .iface 62 (.agg #[.int .i64 x]), recovered := false }]) w fun e u' w' => e = .returned (.tuple #[]) ∧
      u' = .panicking [{ v := .iface 62 (.agg #[.int .i64 x]), recovered := true }] ∧ Bx w' g 22 (.slice none 0 0) ∧ Bx w' h 26 (.int .i64 x) ∧
      ∀ C, C ≤ g → C ≤ h → Below C w w' := by
  refine callsD_of_wpS Try.func30 rfl fun c₀ cs hu => ?_
  apply wpS_seq
  apply wpS_region
  simp [wpOpsS, go_sem, recoverD, hu, Try.ntmps30, Exit.thenS, slots15]
  have ha := assert_fault x
  have c1 : (w.alloc (.cells #[.int .i64 x] 62)).cell? ⟨g, 0, none⟩ = some a := (hg.alloc _).cell
  have c2 : (w.alloc (.cells #[.int .i64 x] 62)).cell? ⟨h, 0, none⟩ = some b := (hh.alloc _).cell
  have c3 : (w.alloc (.cells #[.int .i64 x] 62)).cell? ⟨w.heap.size, 0, none⟩ = some (.int .i64 x) := by simp [go_sem]
  have f1 : (w.alloc (.cells #[.int .i64 x] 62)).frozen? ⟨g, 0, none⟩ = false := (hg.alloc _).fz
  have f2 : (w.alloc (.cells #[.int .i64 x] 62)).frozen? ⟨h, 0, none⟩ = false := (hh.alloc _).fz
  have HG := Lib.hid (hg.alloc (.cells #[.int .i64 x] 62))
  have HH := Lib.hid (hh.alloc (.cells #[.int .i64 x] 62))
  have n1 : ¬ g = w.heap.size := by have := hg.lt; omega
  have n2 : ¬ h = w.heap.size := by have := hh.lt; omega
  have HLG := Lib.hid hg.lt
  have HLH := Lib.hid hh.lt
  have n3 : ¬ g = h := hne
  have n4 : ¬ h = g := fun e => hne e.symm
  clear hg hh
  refine wpS_of_wp ?_
  go_wp2
  go_region
  have HF : Hid (Bx (((w.alloc (.cells #[.int .i64 x] 62)).setCell ⟨g, 0, none⟩ (.slice none 0 0)).setCell ⟨h, 0, none⟩ (.int .i64 x)).drew g 22 (.slice none 0 0) ∧
      Bx (((w.alloc (.cells #[.int .i64 x] 62)).setCell ⟨g, 0, none⟩ (.slice none 0 0)).setCell ⟨h, 0, none⟩ (.int .i64 x)).drew h 26 (.int .i64 x) ∧
      ∀ C, C ≤ g → C ≤ h → Below C w (((w.alloc (.cells #[.int .i64 x] 62)).setCell ⟨g, 0, none⟩ (.slice none 0 0)).setCell ⟨h, 0, none⟩ (.int .i64 x)).drew) :=
    ⟨(HG.out.set _).far (p := ⟨h, 0, none⟩) n3 _, (HH.out.far (p := ⟨g, 0, none⟩) n4 _).set _, fun C hc1 hc2 => ((((Below.refl C w).alloc (Nat.le_of_lt (Nat.lt_of_le_of_lt hc1 HLG.out)) _).setCell (p := ⟨g, 0, none⟩) hc1 _).setCell (p := ⟨h, 0, none⟩) hc2 _).drew⟩
  generalize (((w.alloc (.cells #[.int .i64 x] 62)).setCell ⟨g, 0, none⟩ (.slice none 0 0)).setCell ⟨h, 0, none⟩ (.int .i64 x)).drew = W at *
  clear c1 c2 c3 f1 f2 HG HH n1 n2 HLG HLH n3 n4 ha
  go_wp2
  cases c₀
  simp_all [bodyPostS, results, Try.results30]
  exact HF

end Go.Proofs.Ythncabfeieombaa
