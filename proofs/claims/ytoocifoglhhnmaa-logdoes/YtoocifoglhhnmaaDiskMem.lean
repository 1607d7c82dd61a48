/- What of memory a call of package disk leans on: bytes that lie there, a disk, and which blocks may turn. -/
import Derived.Test.YtoocifoglhhnmaaProg
import Derived.Test.YtoocifoglhhnmaaDiskMath
import Derived.WalkKit
import Derived.WalkSpells
import Derived.WalkLawsBesides
import Derived.Laws.BitsAllLaws
import Derived.Lib.Hide
import Derived.Maps.AppendAt
import Derived.Deep.AppendLies
import Derived.Laws.CopyOwn
import Derived.Deep.MidRow
import Derived.Deep.WholeRow
import Derived.StillTailTactics
import Derived.Deep.LoopGhost
import Derived.Deep.QuietTactic
import Derived.BigQuiet
namespace Go.Proofs.Ytoocifoglhhnmaa
open Go.RowKit

def bv (b : UInt8) : Value := .int .u8 (b.toNat : Int)

theorem bv_one (l : Dk.Bs) : ∀ u ∈ l.map bv, u.oneCell' = true := by
  intro u hu
  obtain ⟨b, _, rfl⟩ := List.mem_map.1 hu
  rfl

/-- Only blocks of which F is told, and new ones, have turned. -/
structure Kept (F : Nat → Prop) (w w' : World) : Prop where
  os : w'.os = w.os
  tape : w'.tape = w.tape
  output : w'.output = w.output
  size : w.heap.size ≤ w'.heap.size
  block : ∀ i, i < w.heap.size → ¬ F i → w'.heap[i]? = w.heap[i]?

def Two (g s : Nat) (i : Nat) : Prop := i = g ∨ i = s
def No (_ : Nat) : Prop := False

theorem Kept.refl (F : Nat → Prop) (w : World) : Kept F w w := ⟨rfl, rfl, rfl, Nat.le_refl _, fun _ _ _ => rfl⟩
theorem Kept.trans {F : Nat → Prop} {a b c : World} (h : Kept F a b) (k : Kept F b c) : Kept F a c :=
  ⟨k.os.trans h.os, k.tape.trans h.tape, k.output.trans h.output, Nat.le_trans h.size k.size, fun i hi hn => (k.block i (Nat.lt_of_lt_of_le hi h.size) hn).trans (h.block i hi hn)⟩
theorem Kept.wide {F G : Nat → Prop} {w w' : World} (h : Kept F w w') (hFG : ∀ i, i < w.heap.size → F i → G i) : Kept G w w' :=
  ⟨h.os, h.tape, h.output, h.size, fun i hi hn => h.block i hi (fun hf => hn (hFG i hi hf))⟩
theorem Kept.of_below {F : Nat → Prop} {w w' : World} (h : Below w.heap.size w w') : Kept F w w' := ⟨h.os, h.tape, h.output, h.size, fun i hi _ => h.block i hi⟩
theorem Kept.below {F : Nat → Prop} {B : Nat} {a w w' : World} (h : Kept F w w') (hb : Below B a w) (hB : B ≤ w.heap.size) (hF : ∀ i, i < B → ¬ F i) : Below B a w' :=
  hb.trans ⟨h.os, h.tape, h.output, h.size, fun i hi => h.block i (by omega) (hF i hi)⟩
theorem Kept.alloc {F : Nat → Prop} {a w : World} (h : Kept F a w) (o : Obj) : Kept F a (w.alloc o) :=
  h.trans ⟨rfl, rfl, rfl, by simp, fun i hi _ => Below.heap_alloc w o i hi⟩
theorem Kept.drew {F : Nat → Prop} {a w : World} (h : Kept F a w) : Kept F a w.drew := ⟨h.os, h.tape, h.output, h.size, h.block⟩
theorem Kept.drewN {F : Nat → Prop} {a w : World} (h : Kept F a w) (m : Nat) : Kept F a (w.drewN m) := ⟨h.os, h.tape, h.output, h.size, h.block⟩
theorem Kept.setCell {F : Nat → Prop} {a w : World} (h : Kept F a w) {p : Addr} (hp : F p.block ∨ a.heap.size ≤ p.block) (u : Value) : Kept F a (w.setCell p u) :=
  ⟨h.os, h.tape, h.output, by simpa [World.setCell] using h.size, fun i hi hn => (Below.heap_setCell w p u i (by
    rintro rfl
    rcases hp with hp | hp
    · exact hn hp
    · omega)).trans (h.block i hi hn)⟩
theorem Kept.setRow {F : Nat → Prop} {a w : World} (h : Kept F a w) {g : Nat} (hp : F g ∨ a.heap.size ≤ g) (cs : Array Value) : Kept F a (w.setRow g cs) :=
  ⟨h.os, h.tape, h.output, by simpa [World.setRow] using h.size, fun i hi hn => (setRow_other w g i cs (by
    rintro rfl
    rcases hp with hp | hp
    · exact hn hp
    · omega)).trans (h.block i hi hn)⟩
theorem Kept.grown {F : Nat → Prop} {a w w' : World} {r : Option Nat} (h : Kept F a w) (hg : w.grownBy w' r) (hr : ∀ k, r = some k → F k ∨ a.heap.size ≤ k) : Kept F a w' :=
  ⟨hg.os.trans h.os, hg.tape.trans h.tape, hg.output.trans h.output, Nat.le_trans h.size hg.size, fun i hi hn => (hg.block i (Nat.lt_of_lt_of_le hi h.size) (fun e => by
    rcases hr i e.symm with hp | hp
    · exact hn hp
    · omega)).trans (h.block i hi hn)⟩
theorem Kept.step {F G : Nat → Prop} {a w w' : World} (h : Kept F a w) (k : Kept G w w') (hG : ∀ i, i < a.heap.size → G i → F i) : Kept F a w' :=
  ⟨k.os.trans h.os, k.tape.trans h.tape, k.output.trans h.output, Nat.le_trans h.size k.size, fun i hi hn => (k.block i (Nat.lt_of_lt_of_le hi h.size) (fun hg => hn (hG i hi hg))).trans (h.block i hi hn)⟩
theorem Kept.cell {F : Nat → Prop} {w w' : World} (h : Kept F w w') {p : Addr} (hp : p.block < w.heap.size) (hn : ¬ F p.block) : w'.cell? p = w.cell? p := World.cell?_of_block (w := w) (h.block p.block hp hn)

/-- Cells that lie from an address on, in a block that is none of F. -/
def CellsIn (F : Nat → Prop) (w : World) (A : Option Addr) (xs : List Value) : Prop :=
  ∀ (k : Nat) (u : Value), xs[k]? = some u → ∃ ad, A = some ad ∧ ad.block < w.heap.size ∧ ¬ F ad.block ∧ w.cell? (ad.add k) = some u
def BytesIn (F : Nat → Prop) (w : World) (A : Option Addr) (l : Dk.Bs) : Prop := CellsIn F w A (l.map bv)

theorem block_add (a : Addr) (n : Nat) : (a.add n).block = a.block := by unfold Addr.add; split <;> rfl
theorem add_add' (a : Addr) (i j : Nat) : (a.add i).add j = a.add (i + j) := by
  unfold Addr.add
  by_cases hi : i = 0 <;> by_cases hj : j = 0 <;> simp [hi, hj, Nat.add_assoc]
theorem add_one' (x : Addr) : x.add 1 = ⟨x.block, x.off + 1, none⟩ := rfl

theorem CellsIn.keep {F : Nat → Prop} {w w' : World} {A : Option Addr} {xs : List Value} (h : CellsIn F w A xs) (hk : Kept F w w') : CellsIn F w' A xs := by
  intro k u hu
  obtain ⟨ad, e, hb, hn, hc⟩ := h k u hu
  exact ⟨ad, e, Nat.lt_of_lt_of_le hb hk.size, hn, (hk.cell (by rw [block_add]; exact hb) (by rw [block_add]; exact hn)).trans hc⟩
theorem CellsIn.less {F G : Nat → Prop} {w : World} {A : Option Addr} {xs : List Value} (h : CellsIn F w A xs) (hFG : ∀ i, i < w.heap.size → G i → F i) : CellsIn G w A xs := by
  intro k u hu
  obtain ⟨ad, e, hb, hn, hc⟩ := h k u hu
  exact ⟨ad, e, hb, fun hg => hn (hFG _ hb hg), hc⟩
theorem CellsIn.nil (F : Nat → Prop) (w : World) (A : Option Addr) : CellsIn F w A [] := by intro k u hu; simp at hu
theorem CellsIn.take {F : Nat → Prop} {w : World} {A : Option Addr} {xs : List Value} (h : CellsIn F w A xs) (n : Nat) : CellsIn F w A (xs.take n) := by
  intro k u hu
  rw [List.getElem?_take] at hu
  split at hu
  · exact h k u hu
  · simp at hu
theorem CellsIn.drop {F : Nat → Prop} {w : World} {ad : Addr} {xs : List Value} (h : CellsIn F w (some ad) xs) (n : Nat) : CellsIn F w (some (ad.add n)) (xs.drop n) := by
  intro k u hu
  rw [List.getElem?_drop] at hu
  obtain ⟨ad', e, hb, hn, hc⟩ := h _ _ hu
  obtain rfl := Option.some.inj e
  exact ⟨_, rfl, by rw [block_add]; exact hb, by rw [block_add]; exact hn, by rw [add_add']; exact hc⟩
theorem BytesIn.at_ {F : Nat → Prop} {w : World} {A : Option Addr} {l : Dk.Bs} (h : BytesIn F w A l) {k : Nat} {b : UInt8} (hb : l[k]? = some b) :
    ∃ ad, A = some ad ∧ ad.block < w.heap.size ∧ ¬ F ad.block ∧ w.cell? (ad.add k) = some (.int .u8 (b.toNat : Int)) :=
  h k (bv b) (by rw [List.getElem?_map, hb]; rfl)

/-- of a block that is known whole -/
theorem CellsIn.of_block {F : Nat → Prop} {w : World} {g : Nat} {cs : List Value} {t : TypeId} {fr : Nat × Nat} (h : w.heap[g]? = some (.cells cs.toArray t fr)) (hn : ¬ F g) : CellsIn F w (some ⟨g, 0, none⟩) cs := by
  intro k u hu
  refine ⟨_, rfl, (Array.getElem?_eq_some_iff.1 h).1, hn, ?_⟩
  rw [Addr.add_mid, Nat.zero_add, cell_of_row w g k _ _ _ h]
  simpa using hu

theorem some_at {α : Type} (l : List α) (k : Nat) (h : k < l.length) : ∃ x, l[k]? = some x := ⟨l[k], List.getElem?_eq_getElem h⟩

theorem info_parts3 {i : Option TypeInfo} {z : Value} {s b : Nat} (h : i.map (fun i => (i.zero, i.size, i.bytes)) = some (some z, s, b)) : ∃ j, i = some j ∧ j.zero = some z ∧ j.size = s ∧ j.bytes = b := by
  cases i with
  | none => simp at h
  | some j => simp at h; exact ⟨j, rfl, h.1, h.2.1, h.2.2⟩

theorem byte_info : (Try.prog.info? 5).map (fun i => (i.zero, i.size, i.bytes)) = some (some (.int .u8 0), 1, 1) := by kernel_rfl
theorem byte_size : (Try.prog.info? 5).map (·.size) = some 1 := by kernel_rfl

def zs32 : List Value := (List.replicate 32 (0 : UInt8)).map bv
theorem zs32_arr : zs32.toArray = #[.int .u8 0, .int .u8 0, .int .u8 0, .int .u8 0, .int .u8 0, .int .u8 0, .int .u8 0, .int .u8 0, .int .u8 0, .int .u8 0, .int .u8 0, .int .u8 0, .int .u8 0, .int .u8 0, .int .u8 0, .int .u8 0, .int .u8 0, .int .u8 0, .int .u8 0, .int .u8 0, .int .u8 0, .int .u8 0, .int .u8 0, .int .u8 0, .int .u8 0, .int .u8 0, .int .u8 0, .int .u8 0, .int .u8 0, .int .u8 0, .int .u8 0, .int .u8 0] := rfl
theorem sec_info : (Try.prog.info? 85).map (fun i => (i.zero, i.size, i.bytes)) = some (some (.agg zs32.toArray), 32, 32) := by kernel_rfl

theorem sec_zero (w : World) : (zeroValue 85).run Try.prog w = .ok (.agg zs32.toArray) w :=
  (zero_of_info (P := Try.prog) (t := 85) (v := .agg zs32.toArray) (n := 32) (by kernel_rfl)).1 w

/-- A disk of package disk: its struct lies in block g, its sectors in block s. -/
structure DiskAt (w : World) (g s n : Nat) (d : Dk.D) : Prop where
  top : w.heap[g]? = some (.cells #[.slice (some ⟨s, 0, none⟩) n n, .bool d.up, .int .i64 d.fuse, .int .i64 d.torn, .int .i64 d.writes] 61 (0, 0))
  row : w.heap[s]? = some (.cells (d.b.map bv).toArray 85 (0, 0))
  good : Dk.Good n d
  n0 : 2 ≤ n
  n1 : n ≤ 4096

theorem blocks_ne {w : World} {g s : Nat} {cs ds : Array Value} {t u : TypeId} {fr gr : Nat × Nat} (h : w.heap[g]? = some (.cells cs t fr)) (k : w.heap[s]? = some (.cells ds u gr)) (hne : t ≠ u) : g ≠ s := by
  rintro rfl
  rw [h] at k
  injection k with k
  injection k with _ ht
  exact hne ht
theorem DiskAt.ne {w : World} {g s n : Nat} {d : Dk.D} (h : DiskAt w g s n d) : g ≠ s := blocks_ne h.top h.row (by decide)
theorem DiskAt.ltg {w : World} {g s n : Nat} {d : Dk.D} (h : DiskAt w g s n d) : g < w.heap.size := (Array.getElem?_eq_some_iff.1 h.top).1
theorem DiskAt.lts {w : World} {g s n : Nat} {d : Dk.D} (h : DiskAt w g s n d) : s < w.heap.size := (Array.getElem?_eq_some_iff.1 h.row).1
theorem DiskAt.keep {F : Nat → Prop} {w w' : World} {g s n : Nat} {d : Dk.D} (h : DiskAt w g s n d) (hk : Kept F w w') (hg : ¬ F g) (hs : ¬ F s) : DiskAt w' g s n d :=
  ⟨(hk.block g h.ltg hg).trans h.top, (hk.block s h.lts hs).trans h.row, h.good, h.n0, h.n1⟩
theorem DiskAt.c0 {w : World} {g s n : Nat} {d : Dk.D} (h : DiskAt w g s n d) : w.cell? ⟨g, 0, none⟩ = some (.slice (some ⟨s, 0, none⟩) n n) := by rw [cell_of_row w g 0 _ _ _ h.top]; rfl
theorem DiskAt.c1 {w : World} {g s n : Nat} {d : Dk.D} (h : DiskAt w g s n d) : w.cell? ⟨g, 1, none⟩ = some (.bool d.up) := by rw [cell_of_row w g 1 _ _ _ h.top]; rfl
theorem DiskAt.c2 {w : World} {g s n : Nat} {d : Dk.D} (h : DiskAt w g s n d) : w.cell? ⟨g, 2, none⟩ = some (.int .i64 d.fuse) := by rw [cell_of_row w g 2 _ _ _ h.top]; rfl
theorem DiskAt.c3 {w : World} {g s n : Nat} {d : Dk.D} (h : DiskAt w g s n d) : w.cell? ⟨g, 3, none⟩ = some (.int .i64 d.torn) := by rw [cell_of_row w g 3 _ _ _ h.top]; rfl
theorem DiskAt.c4 {w : World} {g s n : Nat} {d : Dk.D} (h : DiskAt w g s n d) : w.cell? ⟨g, 4, none⟩ = some (.int .i64 d.writes) := by rw [cell_of_row w g 4 _ _ _ h.top]; rfl
theorem DiskAt.fz {w : World} {g s n : Nat} {d : Dk.D} (h : DiskAt w g s n d) (k : Nat) : w.frozen? ⟨g, k, none⟩ = false := by unfold World.frozen?; rw [h.top]; simp
theorem DiskAt.fzs {w : World} {g s n : Nat} {d : Dk.D} (h : DiskAt w g s n d) (k : Nat) : w.frozen? ⟨s, k, none⟩ = false := by unfold World.frozen?; rw [h.row]; simp
theorem DiskAt.byte {w : World} {g s n : Nat} {d : Dk.D} (h : DiskAt w g s n d) {k : Nat} {b : UInt8} (hb : d.b[k]? = some b) : w.cell? ⟨s, k, none⟩ = some (.int .u8 (b.toNat : Int)) := by
  rw [cell_of_row w s k _ _ _ h.row]
  simp [hb, bv]

/-- copy, into a block that is known whole; of all others nothing turns -/
theorem run_copy_kept {P : Program} (w : World) (dT sT ty elem : TypeId) (dp sp : Option Addr) (dLen dCap sLen sCap : Nat) (hu : P.underlying dT = some (.slice elem)) (hsz : (P.info? elem).map (·.size) = some 1)
    (g off : Nat) (cur : List Value) (t : TypeId) (hg : w.heap[g]? = some (.cells cur.toArray t (0, 0))) (cs : List Value) (hn : cs.length = Nat.min sLen dLen)
    (hpos : 0 < cs.length → dp = some ⟨g, off, none⟩ ∧ ∃ ad, sp = some ad ∧ ∀ j v, cs[j]? = some v → w.cell? (ad.add j) = some v)
    (hfit : off + cs.length ≤ cur.length) (h1 : ∀ v ∈ cs, v.oneCell' = true) :
    ∃ w', (Builtin.copy_ #[dT, sT] ty #[.slice dp dLen dCap, .slice sp sLen sCap]).run P w = .ok (goInt cs.length) w' ∧ w'.heap[g]? = some (.cells (splice cur off cs).toArray t (0, 0)) ∧ Kept (fun i => i = g) w w' := by
  by_cases h0 : cs.length = 0
  · obtain rfl : cs = [] := List.eq_nil_of_length_eq_zero h0
    exact ⟨w, run_copy_none (P := P) w dT sT ty elem dp sp dLen dCap sLen sCap hu hsz (by simpa using hn.symm), by simpa [splice] using hg, Kept.refl _ _⟩
  · obtain ⟨rfl, ad, rfl, hsrc⟩ := hpos (by omega)
    refine ⟨_, run_copy_row (P := P) w dT sT ty elem g off dLen dCap ad sLen sCap cur.toArray t cs hu hsz hg hn hsrc (by simpa using hfit) h1, ?_, (Kept.refl (fun i => i = g) w).setRow (g := g) (.inl rfl) _⟩
    simpa [splice] using setRow_heap w g _ _ t _ hg

theorem wpList_copy_kept {P : Program} {w : World} {ops : Array Oper} {rest : List Oper} {o : Oper} {a : Act} {Q : Exit → Act → World → Prop} (hgd : o.guard = none) (d s : Operand) (dT sT : TypeId)
    (ho : o.op = .call { callee := .builtin .copy, args := #[d, s], argTypes := #[dT, sT] }) (elem : TypeId) (hu : P.underlying dT = some (.slice elem)) (hsz : (P.info? elem).map (·.size) = some 1)
    (dp sp : Option Addr) (dLen dCap sLen sCap : Nat) (hd : a.eval d = .slice dp dLen dCap) (hs : a.eval s = .slice sp sLen sCap)
    (g off : Nat) (cur : List Value) (t : TypeId) (hg : w.heap[g]? = some (.cells cur.toArray t (0, 0))) (cs : List Value) (hn : cs.length = Nat.min sLen dLen)
    (hpos : 0 < cs.length → dp = some ⟨g, off, none⟩ ∧ ∃ ad, sp = some ad ∧ ∀ j v, cs[j]? = some v → w.cell? (ad.add j) = some v)
    (hfit : off + cs.length ≤ cur.length) (h1 : ∀ v ∈ cs, v.oneCell' = true)
    (h : ∀ w', Hid (w'.heap[g]? = some (.cells (splice cur off cs).toArray t (0, 0))) → Kept (fun i => i = g) w w' → wpList P ops Q rest (a.put o.dst (goInt cs.length)) w') :
    wpList P ops Q (o :: rest) a w := by
  obtain ⟨w', hrun, h2, h3⟩ := run_copy_kept (P := P) w dT sT o.type elem dp sp dLen dCap sLen sCap hu hsz g off cur t hg cs hn hpos hfit h1
  refine wpList_plain hgd fun K hK => ?_
  unfold Oper.wp
  simp [execOp, ho, resolve, invoke, builtin, hd, hs, hrun, Result.andThen]
  exact hK _ _ (h w' h2 h3)

end Go.Proofs.Ytoocifoglhhnmaa
