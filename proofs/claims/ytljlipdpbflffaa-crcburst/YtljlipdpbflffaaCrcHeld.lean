/- What the laws on sums of bytes hold of memory while they call: the bytes that came in lie as they lay. -/
import Derived.Test.YtljlipdpbflffaaCrcAwake
namespace Go.Proofs.Ytljlipdpbflffaa
open Go.RowKit

/-- The bytes lie there, and nothing of the first world has turned. -/
def HeldB (w : World) (A : Option Addr) (l : List Nat) (W : World) : Prop := Below w.heap.size w W ∧ BytesAt W A l

theorem HeldB.start {w : World} {A : Option Addr} {l : List Nat} (h : BytesAt w A l) : HeldB w A l w := ⟨Below.refl _ _, h⟩

theorem HeldB.next {w W W' : World} {A : Option Addr} {l : List Nat} (h : HeldB w A l W) (hb : Below W.heap.size W W') : HeldB w A l W' :=
  ⟨h.1.trans (hb.mono h.1.size), bytesAt_below h.2 hb⟩

theorem HeldB.drew {w W : World} {A : Option Addr} {l : List Nat} (h : HeldB w A l W) : HeldB w A l W.drew := ⟨h.1.drew, h.2⟩

/-- a slice of the bytes: k on, n of them -/
def PieceOf (A : Option Addr) (l : List Nat) (A' : Option Addr) (l' : List Nat) : Prop := ∀ W, BytesAt W A l → BytesAt W A' l'

theorem piece_all (A : Option Addr) (l : List Nat) : PieceOf A l A l := fun _ h => h

theorem piece_take (A : Option Addr) (l : List Nat) (k : Nat) : PieceOf A l A (l.take k) := by
  intro W h i b hi
  refine h i b ?_
  rw [List.getElem?_take] at hi
  split at hi
  · exact hi
  · simp at hi

theorem addr_add_add (a : Addr) (i j : Nat) : (a.add i).add j = a.add (i + j) := by
  unfold Addr.add
  by_cases hi : i = 0 <;> by_cases hj : j = 0 <;> simp [hi, hj, Nat.add_assoc]

theorem piece_drop (ad : Addr) (l : List Nat) (k : Nat) : PieceOf (some ad) l (some (ad.add k)) (l.drop k) := by
  intro W h i b hi
  rw [List.getElem?_drop] at hi
  obtain ⟨h8, ad', e, hc⟩ := h (k + i) b hi
  obtain rfl := Option.some.inj e
  exact ⟨h8, _, rfl, by rw [addr_add_add]; exact hc⟩

theorem piece_nil (A A' : Option Addr) (l : List Nat) : PieceOf A l A' [] := fun _ _ k b hk => by simp at hk

theorem more_held (s : Nat) (A A' : Option Addr) (n c : Nat) (l l' : List Nat) (w W : World) (hs : s < 4294967296) (hn : l'.length = n) (hl : n ≤ 2000) (hp : PieceOf A l A' l') (hh : HeldB w A l W) :
    Calls Try.prog 10 #[.int .u32 s, .slice A' n c] W fun e w' => e = .returned (.int .u32 (Crc.more s l' : Nat)) ∧ HeldB w A l w' := by
  subst hn
  exact (more_any s A' c l' W hs (by unfold maxLen; omega) (hp W hh.2)).mono fun _ _ ⟨he, hb⟩ => ⟨he, hh.next hb⟩

theorem sum_held (A A' : Option Addr) (n c : Nat) (l l' : List Nat) (w W : World) (hn : l'.length = n) (hl : n ≤ 2000) (hp : PieceOf A l A' l') (hh : HeldB w A l W) :
    Calls Try.prog 8 #[.slice A' n c] W fun e w' => e = .returned (.int .u32 (Crc.more 0 l' : Nat)) ∧ HeldB w A l w' := by
  subst hn
  exact (sum_any A' c l' W (by unfold maxLen; omega) (hp W hh.2)).mono fun _ _ ⟨he, hb⟩ => ⟨he, hh.next hb⟩

theorem awake_held (A : Option Addr) (l : List Nat) (w W : World) (hh : HeldB w A l W) :
    Calls Try.prog 6 #[] W fun e w' => e = .returned (.bool true) ∧ HeldB w A l w' :=
  (awake_any W).mono fun _ _ ⟨he, hb⟩ => ⟨he, hh.next hb⟩

theorem rmore_held (s : Nat) (A : Option Addr) (n c : Nat) (l : List Nat) (w W : World) (hs : s < 4294967296) (hn : l.length = n) (hl : n ≤ 2000) (hh : HeldB w A l W) :
    Calls Try.prog 11 #[.int .u32 s, .slice A n c] W fun e w' => e = .returned (.int .u32 (Crc.more s l : Nat)) ∧ HeldB w A l w' := by
  subst hn
  exact (rmore_any s A c l W hs (by unfold maxLen; omega) hh.2).mono fun _ _ ⟨he, hb⟩ => ⟨he, hb ▸ hh⟩

theorem rsum_held (A : Option Addr) (n c : Nat) (l : List Nat) (w W : World) (hn : l.length = n) (hl : n ≤ 2000) (hh : HeldB w A l W) :
    Calls Try.prog 9 #[.slice A n c] W fun e w' => e = .returned (.int .u32 (Crc.more 0 l : Nat)) ∧ HeldB w A l w' := by
  subst hn
  exact (rsum_any A c l W (by unfold maxLen; omega) hh.2).mono fun _ _ ⟨he, hb⟩ => ⟨he, hb ▸ hh⟩

/-- The bytes that came in. -/
theorem bytes_of (w : World) (a : Option Addr) (len cap : Nat) (zs : List Int)
    (h : (a = none ∧ len = 0 ∧ cap = 0 ∧ zs = []) ∨ ∃ x, a = some x ∧ len ≤ cap ∧ cap ≤ maxLen ∧ zs.length = cap ∧ (∀ i, i < zs.length → w.cell? (x.add i) = some (.int .u8 (zs.getD i 0))) ∧ ∀ n ∈ zs, (Lit.int .u8 n).wf = true) :
    ∃ l : List Nat, l.length = len ∧ len ≤ cap ∧ cap ≤ maxLen ∧ BytesAt w a l ∧ (a = none → len = 0 ∧ cap = 0) := by
  rcases h with ⟨rfl, rfl, rfl, rfl⟩ | ⟨x, rfl, h1, h2, h3, h4, h5⟩
  · exact ⟨[], rfl, Nat.le_refl _, by decide, fun k b hk => by simp at hk, fun _ => ⟨rfl, rfl⟩⟩
  · refine ⟨(zs.take len).map Int.toNat, by rw [List.length_map, List.length_take]; omega, h1, h2, ?_, fun h => by cases h⟩
    intro k b hk
    rw [List.getElem?_map] at hk
    cases e : (zs.take len)[k]? with
    | none => rw [e] at hk; simp at hk
    | some z =>
      rw [e] at hk
      simp at hk
      subst hk
      have hz : z ∈ zs := List.mem_of_mem_take (List.mem_of_getElem? e)
      have hw := h5 z hz
      have hw2 : 0 ≤ z ∧ z ≤ 255 := by simpa [Lit.wf, IntKind.min, IntKind.max, IntKind.bits, IntKind.signed] using hw
      have hk2 : k < len := by have := (List.getElem?_eq_some_iff.1 e).1; rw [List.length_take] at this; omega
      have hkz : k < zs.length := by omega
      rw [List.getElem?_take_of_lt hk2] at e
      refine ⟨by omega, x, rfl, ?_⟩
      rw [h4 k hkz, List.getD_eq_getElem?_getD, e]
      simp
      omega

theorem u32_of (a : Int) (h : (Lit.int .u32 a).wf = true) : ∃ s : Nat, s < 4294967296 ∧ a = (s : Int) := by
  have hw2 : 0 ≤ a ∧ a ≤ 4294967295 := by simpa [Lit.wf, IntKind.min, IntKind.max, IntKind.bits, IntKind.signed] using h
  exact ⟨a.toNat, by omega, by omega⟩

end Go.Proofs.Ytljlipdpbflffaa
