/- Sectors that may be torn: plain mathematics, nothing of the program. -/
import Derived.Laws.CopyOwn
namespace Go.Proofs.Ytoocifoglhhnmaa.Dk

abbrev Bs := List UInt8

/-- a disk: its bytes, its power, a fuse (below 0: none), how many bytes are torn, how many writes were done -/
structure D where
  b : Bs
  up : Bool
  fuse : Int
  torn : Int
  writes : Int

structure Good (n : Nat) (d : D) : Prop where
  len : d.b.length = 32 * n
  t0 : 0 ≤ d.torn
  t1 : d.torn ≤ 32
  f0 : -9223372036854775808 ≤ d.fuse
  f1 : d.fuse ≤ 9223372036854775807
  w0 : 0 ≤ d.writes

def fill (l : Bs) : Bs := Go.splice (List.replicate 32 0) 0 l
def lay (b : Bs) (k : Nat) (l : Bs) (f : Nat) : Bs := Go.splice b (32 * k) ((fill l).take f)
def sec (b : Bs) (k : Nat) : Bs := (b.drop (32 * k)).take 32
def has (n : Nat) (k : Int) : Bool := decide (0 ≤ k ∧ k < n)

def wcode (n : Nat) (d : D) (k : Int) (l : Bs) : Int :=
  if has n k = false then 5 else if 32 < l.length then 1 else if d.up = false then 7 else if d.fuse = 0 then 7 else 0
def wstate (n : Nat) (d : D) (k : Int) (l : Bs) : D :=
  if has n k = false then d else if 32 < l.length then d else if d.up = false then d
  else if d.fuse = 0 then { d with b := lay d.b k.toNat l d.torn.toNat, up := false }
  else { d with b := lay d.b k.toNat l 32, writes := d.writes + 1, fuse := if 0 < d.fuse then d.fuse - 1 else d.fuse }
def fuseTo (d : D) (a c : Int) : D := { d with fuse := a, torn := min (max c 0) 32 }
def crash (d : D) : D := { d with up := true, fuse := -1 }
def tcode (n : Nat) (k : Int) : Int := if 0 ≤ k ∧ k < 32 * n then 0 else 5
def tstate (n : Nat) (d : D) (k : Int) (y : UInt8) : D :=
  if 0 ≤ k ∧ k < 32 * n then { d with b := d.b.set k.toNat (d.b.getD k.toNat 0 ^^^ y) } else d
def fresh (n : Nat) : D := ⟨List.replicate (32 * n) 0, true, -1, 0, 0⟩

theorem fill_len {l : Bs} (h : l.length ≤ 32) : (fill l).length = 32 := by
  unfold fill; rw [Go.length_splice _ _ _ (by simpa using h)]; simp
theorem lay_len {b l : Bs} {k f n : Nat} (hb : b.length = 32 * n) (hk : k < n) (hf : f ≤ 32) : (lay b k l f).length = b.length := by
  unfold lay; rw [Go.length_splice]; rw [List.length_take]; omega

theorem splice_map {α β : Type} (f : α → β) (L : List α) (o : Nat) (cs : List α) : (Go.splice L o cs).map f = Go.splice (L.map f) o (cs.map f) := by
  simp [Go.splice, List.map_append, List.map_take, List.map_drop]

theorem fresh_good (n : Nat) : Good n (fresh n) := ⟨by simp [fresh], by simp [fresh], by simp [fresh], by simp [fresh], by simp [fresh], by simp [fresh]⟩

theorem wstate_good {n : Nat} {d : D} (h : Good n d) (k : Int) (l : Bs) : Good n (wstate n d k l) := by
  obtain ⟨h1, h2, h3, h4, h5, h6⟩ := h
  unfold wstate
  by_cases e1 : has n k = false
  · rw [if_pos e1]; exact ⟨h1, h2, h3, h4, h5, h6⟩
  rw [if_neg e1]
  have hk : k.toNat < n := by
    have : 0 ≤ k ∧ k < n := by simpa [has] using e1
    omega
  by_cases e2 : 32 < l.length
  · rw [if_pos e2]; exact ⟨h1, h2, h3, h4, h5, h6⟩
  rw [if_neg e2]
  by_cases e3 : d.up = false
  · rw [if_pos e3]; exact ⟨h1, h2, h3, h4, h5, h6⟩
  rw [if_neg e3]
  by_cases e4 : d.fuse = 0
  · rw [if_pos e4]; exact ⟨by rw [← h1]; exact lay_len h1 hk (by omega), h2, h3, h4, h5, h6⟩
  rw [if_neg e4]
  refine ⟨by rw [← h1]; exact lay_len h1 hk (by omega), h2, h3, ?_, ?_, ?_⟩ <;> simp only <;> (try split) <;> omega

theorem wstate_writes {n : Nat} (d : D) (k : Int) (l : Bs) : d.writes ≤ (wstate n d k l).writes ∧ (wstate n d k l).writes ≤ d.writes + 1 := by
  unfold wstate
  split
  · omega
  split
  · omega
  split
  · omega
  split <;> simp only <;> omega

theorem tstate_good {n : Nat} {d : D} (h : Good n d) (k : Int) (y : UInt8) : Good n (tstate n d k y) := by
  obtain ⟨h1, h2, h3, h4, h5, h6⟩ := h
  unfold tstate
  split
  · exact ⟨by simpa using h1, h2, h3, h4, h5, h6⟩
  · exact ⟨h1, h2, h3, h4, h5, h6⟩

theorem fuse_good {n : Nat} {d : D} (h : Good n d) (a c : Int) (h0 : -9223372036854775808 ≤ a) (h1 : a ≤ 9223372036854775807) : Good n (fuseTo d a c) :=
  ⟨h.len, by simp only [fuseTo]; omega, by simp only [fuseTo]; omega, h0, h1, h.w0⟩
theorem crash_good {n : Nat} {d : D} (h : Good n d) : Good n (crash d) := ⟨h.len, h.t0, h.t1, by simp [crash], by simp [crash], h.w0⟩

theorem sec_len {b : Bs} {n k : Nat} (hb : b.length = 32 * n) (hk : k < n) : (sec b k).length = 32 := by
  unfold sec; rw [List.length_take, List.length_drop]; omega

/-- a sector that is laid on: its first bytes are those, the others stay -/
theorem sec_lay {b l : Bs} {n k f : Nat} (hb : b.length = 32 * n) (hk : k < n) (hl : l.length ≤ 32) (hf : f ≤ 32) : sec (lay b k l f) k = (fill l).take f ++ (sec b k).drop f := by
  have hf2 : ((fill l).take f).length = f := by rw [List.length_take, fill_len hl]; omega
  unfold sec lay Go.splice
  rw [hf2, List.drop_append, List.drop_eq_nil_of_le (by rw [List.length_take]; omega), List.nil_append, List.length_take]
  rw [show 32 * k - min (32 * k) b.length = 0 by omega, List.drop_zero, List.take_append, List.take_of_length_le (by omega), hf2]
  congr 1
  rw [List.drop_take, List.drop_drop]

/-- another one stays -/
theorem sec_lay_other {b l : Bs} {n k j f : Nat} (hb : b.length = 32 * n) (hk : k < n) (hl : l.length ≤ 32) (hf : f ≤ 32) (hne : j ≠ k) : sec (lay b k l f) j = sec b j := by
  have hf2 : ((fill l).take f).length = f := by rw [List.length_take, fill_len hl]; omega
  apply List.ext_getElem?
  intro i
  unfold sec lay Go.splice
  rw [hf2, List.getElem?_take, List.getElem?_take]
  by_cases hi : i < 32
  · rw [if_pos hi, if_pos hi, List.getElem?_drop, List.getElem?_drop]
    by_cases h1 : 32 * j + i < 32 * k
    · rw [List.getElem?_append_left (by rw [List.length_take]; omega), List.getElem?_take_of_lt h1]
    · rw [List.getElem?_append_right (by rw [List.length_take]; omega), List.length_take, List.getElem?_append_right (by omega), hf2, List.getElem?_drop]
      congr 1
      omega
  · rw [if_neg hi, if_neg hi]

theorem lay_zero (b : Bs) (k : Nat) (l : Bs) : lay b k l 0 = b := by unfold lay Go.splice; simp

theorem has_iff {n : Nat} {k : Int} : has n k = true ↔ 0 ≤ k ∧ k < n := by simp [has]

end Go.Proofs.Ytoocifoglhhnmaa.Dk
