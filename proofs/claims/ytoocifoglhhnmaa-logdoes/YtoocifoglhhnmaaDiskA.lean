/- Contracts: package disk's has, Sectors, Writes, Crash, Fuse, lay. -/
import Derived.Test.YtoocifoglhhnmaaDiskMem
namespace Go.Proofs.Ytoocifoglhhnmaa
open Go.RowKit

set_option maxHeartbeats 400000 in
theorem has_any (g s n : Nat) (d : Dk.D) (k : Int) (w : World) (h : DiskAt w g s n d) :
    Calls Try.prog 41 #[.pointer (some ⟨g, 0, none⟩), .int .i64 k] w fun e w' => e = .returned (.bool (Dk.has n k)) ∧ w = w' := by
  have c0 := h.c0
  clear h
  by_cases h1 : 0 ≤ k
  · by_cases h2 : k < n
    · have HE : Hid (Dk.has n k = true) := Dk.has_iff.2 ⟨h1, h2⟩
      have d1 : decide ((0 : Int) ≤ k) = true := decide_eq_true h1
      have d2 : decide (k < (n : Int)) = true := decide_eq_true h2
      go_enter Try.func41, Try.ntmps41
      go_wp2
      go_ret
      exact ⟨by rw [HE.out]; rfl, rfl⟩
    · have HE : Hid (Dk.has n k = false) := by unfold Hid; rw [Bool.eq_false_iff]; intro e; exact h2 (Dk.has_iff.1 e).2
      have d1 : decide ((0 : Int) ≤ k) = true := decide_eq_true h1
      have d2 : decide (k < (n : Int)) = false := decide_eq_false h2
      go_enter Try.func41, Try.ntmps41
      go_wp2
      go_ret
      exact ⟨by rw [HE.out]; rfl, rfl⟩
  · have HE : Hid (Dk.has n k = false) := by unfold Hid; rw [Bool.eq_false_iff]; intro e; exact h1 (Dk.has_iff.1 e).1
    have d1 : decide ((0 : Int) ≤ k) = false := decide_eq_false h1
    go_enter Try.func41, Try.ntmps41
    go_wp2
    go_ret
    exact ⟨by rw [HE.out]; rfl, rfl⟩

set_option maxHeartbeats 400000 in
theorem sectors_any (g s n : Nat) (d : Dk.D) (w : World) (h : DiskAt w g s n d) :
    Calls Try.prog 30 #[.pointer (some ⟨g, 0, none⟩)] w fun e w' => e = .returned (.int .i64 n) ∧ w = w' := by
  have c0 := h.c0
  clear h
  go_enter Try.func30, Try.ntmps30
  go_wp2
  go_ret
  exact ⟨rfl, rfl⟩

set_option maxHeartbeats 400000 in
theorem writes_any (g s n : Nat) (d : Dk.D) (w : World) (h : DiskAt w g s n d) :
    Calls Try.prog 54 #[.pointer (some ⟨g, 0, none⟩)] w fun e w' => e = .returned (.int .i64 d.writes) ∧ w = w' := by
  have c0 := h.c4
  clear h
  go_enter Try.func54, Try.ntmps54
  go_wp2
  go_ret
  exact ⟨rfl, rfl⟩

/-- a field of the disk's struct is set -/
theorem DiskAt.set {w : World} {g s n : Nat} {d d' : Dk.D} (h : DiskAt w g s n d) (k : Nat) (u : Value)
    (he : (#[.slice (some ⟨s, 0, none⟩) n n, .bool d.up, .int .i64 d.fuse, .int .i64 d.torn, .int .i64 d.writes] : Array Value).setIfInBounds k u = #[.slice (some ⟨s, 0, none⟩) n n, .bool d'.up, .int .i64 d'.fuse, .int .i64 d'.torn, .int .i64 d'.writes])
    (hb : d'.b = d.b) (hg : Dk.Good n d') : DiskAt (w.setCell ⟨g, k, none⟩ u) g s n d' := by
  refine ⟨?_, ?_, hg, h.n0, h.n1⟩
  · rw [setCell_eq_setRow w g k _ _ _ u h.top, ← he]
    exact setRow_heap w g _ _ _ _ h.top
  · rw [Below.heap_setCell _ _ _ _ (Ne.symm h.ne), hb]
    exact h.row

theorem kept_set {w : World} (g s k : Nat) (u : Value) : Kept (Two g s) w (w.setCell ⟨g, k, none⟩ u) := (Kept.refl _ _).setCell (p := ⟨g, k, none⟩) (.inl (.inl rfl)) u

set_option maxHeartbeats 400000 in
theorem crash_any (g s n : Nat) (d : Dk.D) (w : World) (h : DiskAt w g s n d) :
    Calls Try.prog 21 #[.pointer (some ⟨g, 0, none⟩)] w fun e w' => e = .returned (.tuple #[]) ∧ DiskAt w' g s n (Dk.crash d) ∧ Kept (Two g s) w w' := by
  have c1 := h.c1
  have c2 := h.c2
  have f1 := h.fz 1
  have f2 := h.fz 2
  have h1 : DiskAt (w.setCell ⟨g, 1, none⟩ (.bool true)) g s n { d with up := true } := h.set 1 _ rfl rfl ⟨h.good.len, h.good.t0, h.good.t1, h.good.f0, h.good.f1, h.good.w0⟩
  have h2 : DiskAt ((w.setCell ⟨g, 1, none⟩ (.bool true)).setCell ⟨g, 2, none⟩ (.int .i64 (-1))) g s n (Dk.crash d) := h1.set 2 _ rfl rfl (Dk.crash_good h.good)
  have HD := Lib.hid h2
  clear h h1 h2
  go_enter Try.func21, Try.ntmps21
  go_wp2
  go_end0
  exact ⟨rfl, HD.out, (kept_set g s 1 _).trans (kept_set g s 2 _)⟩

set_option maxHeartbeats 400000 in
theorem fuse_any (g s n : Nat) (d : Dk.D) (a c : Int) (w : World) (h : DiskAt w g s n d) (ha : -9223372036854775808 ≤ a) (ha' : a ≤ 9223372036854775807) :
    Calls Try.prog 12 #[.pointer (some ⟨g, 0, none⟩), .int .i64 a, .int .i64 c] w fun e w' => e = .returned (.tuple #[]) ∧ DiskAt w' g s n (Dk.fuseTo d a c) ∧ Kept (Two g s) w w' := by
  have c2 := h.c2
  have c3 := h.c3
  have f1 := h.fz 2
  have f2 := h.fz 3
  have h1 : DiskAt (w.setCell ⟨g, 2, none⟩ (.int .i64 a)) g s n { d with fuse := a } := h.set 2 _ rfl rfl ⟨h.good.len, h.good.t0, h.good.t1, ha, ha', h.good.w0⟩
  have h2 : ∀ x : Int, x = min (max c 0) 32 → DiskAt ((w.setCell ⟨g, 2, none⟩ (.int .i64 a)).setCell ⟨g, 3, none⟩ (.int .i64 x)) g s n (Dk.fuseTo d a c) := fun x hx => by subst hx; exact h1.set 3 _ rfl rfl (Dk.fuse_good h.good a c ha ha')
  have HD := Lib.hid h2
  clear h h1 h2
  go_enter Try.func12, Try.ntmps12
  go_wp2
  all_goals
    go_end0
    exact ⟨rfl, HD.out _ (by omega), (kept_set g s 2 _).trans (kept_set g s 3 _)⟩


theorem min_len {A B : Nat} (h : A ≤ B) : A = Nat.min A B := (Nat.min_eq_left h).symm

set_option maxHeartbeats 1000000 in
set_option maxRecDepth 100000 in
theorem lay_any (g s n : Nat) (d : Dk.D) (k f : Nat) (A : Option Addr) (m c : Nat) (l : Dk.Bs) (w : World) (h : DiskAt w g s n d) (hk : k < n) (hf : f ≤ 32) (hm : l.length = m) (hl : m ≤ 32) (hb : BytesIn (Two g s) w A l) :
    Calls Try.prog 78 #[.pointer (some ⟨g, 0, none⟩), .int .i64 k, .slice A m c, .int .i64 f] w fun e w' => e = .returned (.tuple #[]) ∧ DiskAt w' g s n { d with b := Dk.lay d.b k l f } ∧ Kept (Two g s) w w' := by
  have hz := sec_zero
  have hne := h.ne
  have hlg := h.ltg
  have hls := h.lts
  -- the first copy
  obtain ⟨W1, hrun1, hrow1, hk1⟩ := run_copy_kept (P := Try.prog) (w.alloc (.cells zs32.toArray 85)) 38 38 3 5 (some ⟨w.heap.size, 0, none⟩) A 32 32 m c Try.underlying38 byte_size
    w.heap.size 0 zs32 85 (heap_alloc_new w _) (l.map bv) (by rw [List.length_map, hm]; exact min_len hl)
    (fun h0 => ⟨rfl, by
      obtain ⟨x, hx⟩ := some_at (l.map bv) 0 h0
      obtain ⟨ad, rfl, _, _, _⟩ := hb 0 x hx
      refine ⟨ad, rfl, fun j v hv => ?_⟩
      obtain ⟨ad', e, hlt, _, hc⟩ := hb j v hv
      obtain rfl := Option.some.inj e
      rw [World.cell?_alloc_lt _ _ _ (by rw [block_add]; exact hlt)]
      exact hc⟩)
    (by rw [List.length_map, hm]; show 0 + m ≤ 32; omega) (bv_one l)
  have hkw1 : Kept (Two g s) w W1 := ((Kept.refl (Two g s) w).alloc (.cells zs32.toArray 85)).step hk1 (fun i hi e => by omega)
  have h1 : DiskAt W1 g s n d := (h.keep (F := No) ((Kept.refl No w).alloc (.cells zs32.toArray 85)) id id).keep hk1 (by omega) (by omega)
  have c0 := h1.c0
  -- the second one
  have hfl : (Dk.fill l).length = 32 := Dk.fill_len (by omega)
  have hfm : (Dk.fill l).map bv = splice zs32 0 (l.map bv) := Dk.splice_map bv _ _ _
  have hlen2 : (((Dk.fill l).take f).map bv).length = f := by rw [List.length_map, List.length_take]; omega
  obtain ⟨W2, hrun2, hrow2, hk2⟩ := run_copy_kept (P := Try.prog) W1.drew 38 38 3 5 (some ⟨s, k * 32, none⟩) (some ⟨w.heap.size, 0, none⟩) f 32 32 32 Try.underlying38 byte_size
    s (k * 32) (d.b.map bv) 85 h1.row (((Dk.fill l).take f).map bv) (by rw [hlen2]; exact (Nat.min_eq_right hf).symm)
    (fun h0 => ⟨rfl, _, rfl, fun j v hv => by
      rw [List.map_take, hfm] at hv
      obtain ⟨ad, e, _, _, hc⟩ := (CellsIn.of_block (F := No) (w := W1) hrow1 id).take f j v hv
      obtain rfl := Option.some.inj e
      exact hc⟩)
    (by rw [hlen2, List.length_map, h1.good.len]; omega) (bv_one _)
  have hkw2 : Kept (Two g s) w W2 := hkw1.drew.step hk2 (fun i _ e => .inr e)
  have h2 : DiskAt W2 g s n { d with b := Dk.lay d.b k l f } := by
    refine ⟨(hk2.block g h1.ltg hne).trans h1.top, ?_, ⟨?_, h1.good.t0, h1.good.t1, h1.good.f0, h1.good.f1, h1.good.w0⟩, h1.n0, h1.n1⟩
    · rw [hrow2, ← Dk.splice_map, Nat.mul_comm k 32]
      rfl
    · show (Dk.lay d.b k l f).length = _
      rw [Dk.lay_len h.good.len hk hf]; exact h.good.len
  have i1 : (0 : Int) ≤ (k : Int) := by omega
  have i2 : (k : Int) < (n : Int) := by omega
  have i3 : (0 : Int) ≤ (f : Int) := by omega
  have i4 : (f : Int) ≤ 32 := by omega
  have HK2 := Lib.hid hkw2
  have H2 := Lib.hid h2
  have hn1 := h.n1
  clear h hm hb hrow1 hk1 hkw1 h1 hrow2 hk2 hkw2 h2 hfl hfm hlen2
  go_enter Try.func78, Try.ntmps78
  go_wp2
  go_still_tail 9, (by kernel_rfl)
  go_wp2
  go_end0
  exact ⟨rfl, H2.out, HK2.out⟩

end Go.Proofs.Ytoocifoglhhnmaa
