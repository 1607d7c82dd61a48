/- Contracts: package pack's reader takes a value of each letter. -/
import Derived.Test.YthncabfeieombaaPackRe
namespace Go.Proofs.Ythncabfeieombaa
open Go.RowKit

/-- Below block B nothing has turned but block r. -/
structure Aside (B r : Nat) (w w' : World) : Prop where
  os : w'.os = w.os
  tape : w'.tape = w.tape
  output : w'.output = w.output
  size : w.heap.size ≤ w'.heap.size
  block : ∀ k, k < B → k ≠ r → w'.heap[k]? = w.heap[k]?

theorem Aside.refl (B r : Nat) (w : World) : Aside B r w w := ⟨rfl, rfl, rfl, Nat.le_refl _, fun _ _ _ => rfl⟩
theorem Aside.trans {B r : Nat} {a b c : World} (h : Aside B r a b) (k : Aside B r b c) : Aside B r a c :=
  ⟨k.os.trans h.os, k.tape.trans h.tape, k.output.trans h.output, Nat.le_trans h.size k.size, fun i h1 h2 => (k.block i h1 h2).trans (h.block i h1 h2)⟩
theorem Aside.grown {B r : Nat} {a b c : World} {row : Option Nat} (h : Aside B r a b) (hg : b.grownBy c row) (hB : B ≤ b.heap.size) (hr : ∀ k, row = some k → k = r ∨ B ≤ k) : Aside B r a c :=
  h.trans ⟨hg.os, hg.tape, hg.output, hg.size, fun i h1 h2 => hg.block i (Nat.lt_of_lt_of_le h1 hB) (fun e => by
    rcases hr i e.symm with h | h
    · exact h2 h
    · omega)⟩
theorem Aside.below {B r : Nat} {w w' : World} (h : Aside B r w w') (C : Nat) (hC : C ≤ r) (hB : C ≤ B) : Below C w w' := ⟨h.os, h.tape, h.output, h.size, fun k hk => h.block k (by omega) (by omega)⟩

theorem RdAt.grown {w w' : World} {r : Nat} {A : Option Addr} {n c k : Nat} {row : Option Nat} (h : RdAt w r A n c k) (hg : w.grownBy w' row) (hne : some r ≠ row) : RdAt w' r A n c k := (hg.block r h.lt hne).trans h

/-- what appendOnce holds of memory: its values lie in a row of its own; the reader is at k -/
structure OSt (base r B : Nat) (A : Option Addr) (n c : Nat) (l : Pk.Bs) (w0 W : World) (u : Value) (acc : List Pk.V) (k : Nat) : Prop where
  own : W.ownsRow base 34 2 u acc.length (vcs acc)
  rd : RdAt W r A n c k
  asd : Aside base r w0 W
  byt : BytesIn W B A l
  bas : base ≤ W.heap.size
  rb : r < base

theorem OSt.take {base r B : Nat} {A : Option Addr} {n c : Nat} {l : Pk.Bs} {w0 W w1 w2 : World} {u : Value} {acc : List Pk.V} {k k' : Nat} (h : OSt base r B A n c l w0 W u acc k) (hB : B ≤ r)
    (hr1 : RdAt w1 r A n c k') (hg1 : W.grownBy w1 (some r)) (hg2 : w1.grownBy w2 none) : OSt base r B A n c l w0 w2 u acc k' := by
  have hne : u.ownBlock ≠ some r := fun e => own_ne h.own h.rd (by decide) e.symm
  refine ⟨(h.own.kept hg1 (.inr hne)).kept hg2 ?_, hr1.grown hg2 (by simp), (h.asd.grown hg1 h.bas (fun k e => .inl (Option.some.inj e).symm)).grown hg2 (Nat.le_trans h.bas hg1.size) (fun k e => by cases e), ?_, Nat.le_trans h.bas (Nat.le_trans hg1.size hg2.size), h.rb⟩
  · cases e : u.ownBlock with
    | none => exact .inl rfl
    | some x => exact .inr (by simp)
  · refine CellsIn.keep (CellsIn.grown h.byt hg1 hB (Nat.le_of_lt h.rd.lt)) fun p hp => World.cell?_of_block (hg2.block p.block ?_ (by simp))
    have := hr1.lt
    omega

theorem vcs_snoc (acc : List Pk.V) (v : Pk.V) : vcs (acc ++ [v]) = vcs acc ++ [.int .i64 v.1, .string v.2] := by unfold vcs; simp [vc]

theorem OSt.lay {base r B : Nat} {A : Option Addr} {n c : Nat} {l : Pk.Bs} {w0 W w1 : World} {u u' : Value} {acc : List Pk.V} {k : Nat} {v : Pk.V} {o : Obj} (h : OSt base r B A n c l w0 W u acc k) (hB : B ≤ r)
    (ho : w1.ownsRow base 34 2 u' (acc.length + 1) (vcs acc ++ [.int .i64 v.1, .string v.2])) (hg : (W.alloc o).grownBy w1 u.ownBlock) : OSt base r B A n c l w0 w1 u' (acc ++ [v]) k := by
  have hg' : W.grownBy w1 u.ownBlock := grown_trans (grown_alloc W o u.ownBlock) hg (.inl rfl)
  have hne : some r ≠ u.ownBlock := own_ne h.own h.rd (by decide)
  have hlt := h.own.lt
  refine ⟨by rw [vcs_snoc, List.length_append]; exact ho, h.rd.grown hg' hne, h.asd.grown hg' h.bas (fun k e => .inr (hlt k e).1), ?_, Nat.le_trans h.bas hg'.size, h.rb⟩
  refine h.byt.keep fun p hp => World.cell?_of_block (hg'.block p.block ?_ (fun e => ?_))
  · have := h.rd.lt
    omega
  · have h1 := (hlt _ e.symm).1
    have h2 := h.rb
    omega

theorem takeV_n2 {bs t : Pk.Bs} {v : Pk.V} (h : Pk.takeV 110 bs = .ok (v, t)) : v.2 = ⟨#[]⟩ := by
  rw [takeV_n] at h
  split at h
  · cases h
  · injection h with h; injection h with h _; subst h; rfl
theorem takeV_t1 {ch : UInt8} (hch : ch ≠ 110) {bs t : Pk.Bs} {v : Pk.V} (h : Pk.takeV ch bs = .ok (v, t)) : v.1 = 0 := by
  rw [takeV_t ch hch] at h
  split at h
  · cases h
  · split at h
    · cases h
    · split at h
      · cases h
      · injection h with h; injection h with h _; subst h; rfl

theorem takeV_rest (ch : UInt8) (l : Pk.Bs) (at_ : Nat) (v : Pk.V) (t : Pk.Bs) (h : Pk.takeV ch (l.drop at_) = .ok (v, t)) : t.length ≤ l.length ∧ t = l.drop (l.length - t.length) := by
  obtain ⟨_, hb⟩ := Pk.takeV_sound _ _ _ _ h
  have hl := congrArg List.length hb
  rw [List.length_append, List.length_drop] at hl
  have hle : t.length ≤ l.length := by omega
  refine ⟨hle, ?_⟩
  have h2 : l.drop (at_ + (Pk.encV ch v).length) = t := by
    rw [← List.drop_drop, hb, List.drop_left]
  have h3 : at_ + (Pk.encV ch v).length = l.length - t.length ∨ t = [] := by
    by_cases ha : at_ ≤ l.length
    · left; omega
    · right
      exact List.eq_nil_of_length_eq_zero (by omega)
  rcases h3 with h3 | h3
  · rw [← h3, h2]
  · subst h3; simp

/-- what the letters' values tell of the call -/
def OncePost (x : Except Nat (List Pk.V × Pk.Bs)) (base r B : Nat) (A : Option Addr) (n c : Nat) (l : Pk.Bs) (w : World) (e : Ending) (w' : World) : Prop :=
  match x with
  | .error q => e = .panicked (fault q) ∧ Aside base r w w'
  | .ok (acc, t) => ∃ u, e = .returned u ∧ OSt base r B A n c l w w' u acc (n - t.length)

theorem cells_two (w : World) (a b : Value) (t : TypeId) : ∀ j x, [a, b][j]? = some x → (w.alloc (.cells #[a, b] t)).cell? ((⟨w.heap.size, 0, none⟩ : Addr).add j) = some x :=
  World.news_of_block (cs := #[a, b]) (t := t) (fr := (0, 0)) (heap_alloc_new w _)

set_option maxHeartbeats 4000000 in
set_option maxRecDepth 100000 in
theorem appendOnce_any (base r B : Nat) (A : Option Addr) (n c at_ : Nat) (l : Pk.Bs) (L : ByteArray) (acc : List Pk.V) (u : Value) (w : World) (hst : OSt base r B A n c l w w u acc at_)
    (hn : l.length = n) (hnc : n ≤ c) (hc : c ≤ maxLen) (hat : at_ ≤ n) (hB : B ≤ r) (hL : L.size ≤ 1000) (hlen : acc.length + (n - at_) ≤ 30000) :
    Calls Try.prog 32 #[.pointer (some ⟨r, 0, none⟩), u, .string L] w fun e w' => OncePost (Pk.once (bs L) acc (l.drop at_)) base r B A n c l w e w' := by
  obtain ⟨i0, hi0, hz0, hz1, hz2⟩ := info_parts3 val_info
  have HI := Lib.hid hi0
  have HZ0 := Lib.hid hz0
  have HZ1 := Lib.hid hz1
  have HZ2 := Lib.hid hz2
  clear hi0 hz0 hz1 hz2
  have HST := Lib.hid hst
  have HN := Lib.hid hn
  have HBR := Lib.hid hB
  have HCN := Lib.hid (fun (W : World) (U : Value) (a : List Pk.V) (k : Nat) (h : OSt base r B A n c l w W U a k) (hk : k ≤ n) => numberV_any r B A n c k l W h.rd hn hnc hc hk h.byt hB)
  have HCT := Lib.hid (fun (ch : UInt8) (hch : ch ≠ 110) (W : World) (U : Value) (a : List Pk.V) (k : Nat) (h : OSt base r B A n c l w W U a k) (hk : k ≤ n) => text_any ch hch r B A n c k l W h.rd hn hnc hc hk h.byt hB)
  clear hst hn hnc hc hB
  generalize hX : Pk.once (bs L) acc (l.drop at_) = X
  have HX := Lib.hid hX
  clear hX
  go_enter Try.func32, Try.ntmps32
  go_wp2
  go_loopg [1, 10] L.size (fun gk s1 s10 W => ∃ (i k : Nat) (a : List Pk.V), i + gk = L.size ∧ s10 = .int .i64 i ∧ k ≤ n ∧ a.length + (n - k) ≤ 30000 ∧ Hid (OSt base r B A n c l w W s1 a k) ∧ Hid (Pk.once ((bs L).drop i) a (l.drop k) = X))
  case atStart => exact ⟨0, at_, acc, by omega, rfl, hat, hlen, HST.out, HX.out⟩
  case round =>
    obtain ⟨i, k, a, hig, rfl, hk, hal, HS, HO⟩ := hrel
    by_cases hlt : i < L.size
    · obtain ⟨gk, rfl⟩ : ∃ j, gk = j + 1 := ⟨gk - 1, by omega⟩
      rw [drop_cons (bs_get L i hlt), Pk.once] at HO
      by_cases hch : L[i]'hlt = 110
      · have d1 : ((L[i]'hlt).toNat : Int) = 110 := by rw [hch]; rfl
        rw [hch] at HO
        have HCW := Lib.hid (HCN.out wr u1 a k HS.out hk)
        clear hch
        cases hv : Pk.takeV 110 (l.drop k) with
        | error q =>
          rw [hv] at HO HCW
          clear hv
          go_wp2_with (go_at_call 35; refine HCW.out.mono ?_; rintro e w1 ⟨rfl, hg1⟩; have HA1 := Lib.hid (HS.out.asd.grown hg1 HS.out.bas (fun k e => .inl (Option.some.inj e).symm)); clear hg1)
          exact ⟨rfl, by rw [← HO.out]; exact ⟨rfl, HA1.out⟩⟩
        | ok p =>
          obtain ⟨v, t⟩ := p
          have hv2 := takeV_n2 hv
          obtain ⟨x, y⟩ := v
          simp only at hv2
          subst hv2
          have hless := Pk.takeV_less _ _ _ _ hv
          obtain ⟨htl, hte⟩ := takeV_rest _ _ _ _ _ hv
          rw [HN.out] at htl hte
          rw [List.length_drop, HN.out] at hless
          have HTE := Lib.hid hte
          rw [hv] at HO HCW
          clear hv hte
          have HCW2 : Hid (Calls Try.prog 35 #[.pointer (some ⟨r, 0, none⟩)] wr fun e w' => e = .returned (.int .i64 x) ∧ RdAt w' r A n c (n - t.length) ∧ wr.grownBy w' (some r)) := HCW.out
          clear HCW
          have A2 : Hid (∀ z ∈ [Value.int .i64 x, .string ⟨#[]⟩], z.oneCell' = true) := by intro z hz; simp at hz; rcases hz with rfl | rfl <;> rfl
          have A3 : Hid (a.length + 1 ≤ maxLen) := by unfold Hid maxLen; omega
          have A4 : Hid ((a.length + 1) * 24 ≤ 140737488355328) := by unfold Hid; omega
          have A5 : Hid (∀ w1 w2, RdAt w1 r A n c (n - t.length) → wr.grownBy w1 (some r) → w1.grownBy w2 none → OSt base r B A n c l w w2 u1 a (n - t.length)) := fun w1 w2 h1 h2 h3 => HS.out.take HBR.out h1 h2 h3
          have A6 : Hid (∀ (w2 : World) (o : Obj), base ≤ w2.heap.size → base ≤ (w2.alloc o).heap.size) := fun w2 o h => by simp; omega
          go_wp2_with (first
            | (go_at_call 35; refine HCW2.out.mono ?_; rintro e w1 ⟨rfl, hr1, hg1⟩; have HR1 := Lib.hid hr1; have HG1 := Lib.hid hg1; clear hr1 hg1)
            | (go_at_call 13; refine (num_any _ _).mono ?_; rintro e w2 ⟨rfl, hg2⟩; have HS2 := Lib.hid (A5.out w1 w2 HR1.out HG1.out hg2); clear hg2)
            | (at_builtin; refine wpList_append_own_at (w2.alloc (.cells #[.int .i64 x, .string ⟨#[]⟩] 34)) rfl (.tmp 17) (.tmp 21) 22 rfl base 34 i0 (.agg #[.int .i64 0, .string ⟨#[]⟩]) 2 24 Try.underlying22 HI.out HZ0.out HZ1.out HZ2.out rfl Nat.two_pos u1 a.length (vcs a) rfl (HS2.out.own.alloc (.cells #[.int .i64 x, .string ⟨#[]⟩] 34)) ⟨w2.heap.size, 0, none⟩ 1 1 [.int .i64 x, .string ⟨#[]⟩] rfl rfl (cells_two w2 (.int .i64 x) (.string ⟨#[]⟩) 34) A2.out A3.out A4.out (A6.out w2 _ HS2.out.bas) ?_; intro u3 w3 hown3 hgr3 _ _; have HS3 := Lib.hid (HS2.out.lay (v := (x, ⟨#[]⟩)) HBR.out hown3 hgr3); clear hown3 hgr3))
          go_roundg gk
          case measure => omega
          case rel =>
            refine ⟨i + 1, n - t.length, a ++ [(x, (⟨#[]⟩ : ByteArray))], by omega, by first | rfl | go_num, by omega, by rw [List.length_append, List.length_singleton]; omega, HS3.out, ?_⟩
            unfold Hid
            rw [← HO.out, ← HTE.out]
      · have d1 : (((L[i]'hlt).toNat : Int) == 110) = false := beq_eq_false_iff_ne.2 (u8_ne hch)
        have HCW := Lib.hid (HCT.out _ hch wr u1 a k HS.out hk)
        cases hv : Pk.takeV (L[i]'hlt) (l.drop k) with
        | error q =>
          rw [hv] at HO HCW
          clear hv hch
          go_wp2_with (go_at_call 36; refine HCW.out.mono ?_; rintro e w1 ⟨rfl, hg1⟩; have HA1 := Lib.hid (HS.out.asd.grown hg1 HS.out.bas (fun k e => .inl (Option.some.inj e).symm)); clear hg1)
          exact ⟨rfl, by rw [← HO.out]; exact ⟨rfl, HA1.out⟩⟩
        | ok p =>
          obtain ⟨v, t⟩ := p
          have hv2 := takeV_t1 hch hv
          obtain ⟨x, y⟩ := v
          simp only at hv2
          subst hv2
          have hless := Pk.takeV_less _ _ _ _ hv
          obtain ⟨htl, hte⟩ := takeV_rest _ _ _ _ _ hv
          rw [HN.out] at htl hte
          rw [List.length_drop, HN.out] at hless
          have HTE := Lib.hid hte
          rw [hv] at HO HCW
          clear hv hte hch
          have HCW2 : Hid (Calls Try.prog 36 #[.pointer (some ⟨r, 0, none⟩)] wr fun e w' => e = .returned (.string y) ∧ RdAt w' r A n c (n - t.length) ∧ wr.grownBy w' (some r)) := HCW.out
          clear HCW
          have A2 : Hid (∀ z ∈ [Value.int .i64 0, .string y], z.oneCell' = true) := by intro z hz; simp at hz; rcases hz with rfl | rfl <;> rfl
          have A3 : Hid (a.length + 1 ≤ maxLen) := by unfold Hid maxLen; omega
          have A4 : Hid ((a.length + 1) * 24 ≤ 140737488355328) := by unfold Hid; omega
          have A5 : Hid (∀ w1 w2, RdAt w1 r A n c (n - t.length) → wr.grownBy w1 (some r) → w1.grownBy w2 none → OSt base r B A n c l w w2 u1 a (n - t.length)) := fun w1 w2 h1 h2 h3 => HS.out.take HBR.out h1 h2 h3
          have A6 : Hid (∀ (w2 : World) (o : Obj), base ≤ w2.heap.size → base ≤ (w2.alloc o).heap.size) := fun w2 o h => by simp; omega
          go_wp2_with (first
            | (go_at_call 36; refine HCW2.out.mono ?_; rintro e w1 ⟨rfl, hr1, hg1⟩; have HR1 := Lib.hid hr1; have HG1 := Lib.hid hg1; clear hr1 hg1)
            | (go_at_call 14; refine (txt_any _ _).mono ?_; rintro e w2 ⟨rfl, hg2⟩; have HS2 := Lib.hid (A5.out w1 w2 HR1.out HG1.out hg2); clear hg2)
            | (at_builtin; refine wpList_append_own_at (w2.alloc (.cells #[.int .i64 0, .string y] 34)) rfl (.tmp 23) (.tmp 27) 22 rfl base 34 i0 (.agg #[.int .i64 0, .string ⟨#[]⟩]) 2 24 Try.underlying22 HI.out HZ0.out HZ1.out HZ2.out rfl Nat.two_pos u1 a.length (vcs a) rfl (HS2.out.own.alloc (.cells #[.int .i64 0, .string y] 34)) ⟨w2.heap.size, 0, none⟩ 1 1 [.int .i64 0, .string y] rfl rfl (cells_two w2 (.int .i64 0) (.string y) 34) A2.out A3.out A4.out (A6.out w2 _ HS2.out.bas) ?_; intro u3 w3 hown3 hgr3 _ _; have HS3 := Lib.hid (HS2.out.lay (v := (0, y)) HBR.out hown3 hgr3); clear hown3 hgr3))
          go_roundg gk
          case measure => omega
          case rel =>
            refine ⟨i + 1, n - t.length, a ++ [(0, y)], by omega, by first | rfl | go_num, by omega, by rw [List.length_append, List.length_singleton]; omega, HS3.out, ?_⟩
            unfold Hid
            rw [← HO.out, ← HTE.out]
    · have hiL : i = L.size := by omega
      rw [List.drop_of_length_le (by rw [bs_length]; omega), Pk.once] at HO
      have HDL : Hid (n - (l.drop k).length = k) := by unfold Hid; rw [List.length_drop, HN.out]; omega
      subst hiL
      go_wp2
      go_ret
      rw [← HO.out]
      exact ⟨_, rfl, by rw [HDL.out]; exact HS.out⟩

end Go.Proofs.Ythncabfeieombaa
