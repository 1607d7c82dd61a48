/- Contracts: package pack's reader takes numbers, texts and values. -/
import Derived.Test.YthncabfeieombaaPackRd
import Derived.Laws.IdiomStrings
namespace Go.Proofs.Ythncabfeieombaa
open Go.RowKit

theorem conv_str (w : World) (B : Nat) (A : Option Addr) (l : Pk.Bs) (c : Nat) (h : BytesIn w B A l) :
    (convert 25 9 (.slice A l.length c)).run Try.prog w = .ok (.string ⟨l.toArray⟩) w := by
  cases A with
  | none =>
    have : l = [] := by
      cases l with
      | nil => rfl
      | cons b l =>
        obtain ⟨ad, h1, _⟩ := BytesIn.at_ h (k := 0) (b := b) rfl
        cases h1
    subst this
    show (convert 25 9 (.slice none 0 c)).run Try.prog w = _
    rw [run_convert_bytes_string w _ _ _ none 0 c Try.underlying25 Try.underlying5 Try.underlying9]
    simp [Conv.bytesToString]
    rfl
  | some ad =>
    refine run_convert_bytes_back (P := Try.prog) w 25 9 5 ad c l Try.underlying25 Try.underlying5 Try.underlying9 ?_
    intro j hj
    obtain ⟨ad', h1, _, hcell⟩ := BytesIn.at_ h (List.getElem?_eq_getElem hj)
    obtain rfl := Option.some.inj h1
    exact hcell

def NumPost (x : Except Nat (Nat × Pk.Bs)) (w : World) (r : Nat) (A : Option Addr) (n c : Nat) (e : Ending) (w' : World) : Prop :=
  match x with
  | .error q => e = .panicked (fault q) ∧ w.grownBy w' (some r)
  | .ok (u, t) => e = .returned (.int .i64 (Pk.zag u)) ∧ RdAt w' r A n c (n - t.length) ∧ w.grownBy w' (some r)

set_option maxHeartbeats 1000000 in
set_option maxRecDepth 100000 in
theorem number_any (r B : Nat) (A : Option Addr) (n c at_ : Nat) (l : Pk.Bs) (w : World) (hr : RdAt w r A n c at_) (hn : l.length = n) (hnc : n ≤ c) (hc : c ≤ maxLen) (hat : at_ ≤ n)
    (hb : BytesIn w B A l) (hB : B ≤ r) :
    Calls Try.prog 35 #[.pointer (some ⟨r, 0, none⟩)] w fun e w' => NumPost (Pk.fold 0 0 (l.drop at_)) w r A n c e w' := by
  have HF := Lib.hid (folded_any r B A n c at_ l w hr hn hnc hc hat hb hB)
  have HFS := Lib.hid (Pk.fold_sound (l.drop at_) 0 0)
  clear hr hn hnc hc hb hB
  generalize Pk.fold 0 0 (l.drop at_) = X at *
  cases X with
  | error q =>
    go_enter Try.func35, Try.ntmps35
    go_wp2_with (go_at_call 38; refine HF.out.mono ?_; rintro e w1 ⟨rfl, hg1⟩; have HG1 := Lib.hid hg1; clear hg1)
    exact ⟨rfl, rfl, HG1.out⟩
  | ok p =>
    obtain ⟨u, t⟩ := p
    have hu : u ≤ 9223372036854775808 := by
      obtain ⟨_, _, _, hu, _⟩ := HFS.out u t rfl
      exact hu
    clear HFS
    by_cases ho : u % 2 = 1
    · have d1 : ((u : Int) % 2 == 1) = true := by
        have : (u : Int) % 2 = 1 := by omega
        rw [this]; rfl
      have HZ : Hid (Pk.zag u = -1 - (u : Int) / 2) := by unfold Hid Pk.zag; rw [if_pos ho]; omega
      clear ho
      go_enter Try.func35, Try.ntmps35
      go_wp2_with (go_at_call 38; refine HF.out.mono ?_; rintro e w1 ⟨rfl, hr1, hg1⟩; have HG1 := Lib.hid hg1; have HR1 := Lib.hid hr1; clear hg1 hr1)
      go_ret
      exact ⟨by rw [HZ.out]; rfl, HR1.out, HG1.out⟩
    · have d1 : ((u : Int) % 2 == 1) = false := beq_eq_false_iff_ne.2 (by omega)
      have HZ : Hid (Pk.zag u = (u : Int) / 2) := by unfold Hid Pk.zag; rw [if_neg ho]; omega
      clear ho
      go_enter Try.func35, Try.ntmps35
      go_wp2_with (go_at_call 38; refine HF.out.mono ?_; rintro e w1 ⟨rfl, hr1, hg1⟩; have HG1 := Lib.hid hg1; have HR1 := Lib.hid hr1; clear hg1 hr1)
      go_ret
      exact ⟨by rw [HZ.out]; rfl, HR1.out, HG1.out⟩

/-- what a value of a letter tells of the call: its number, or its text -/
def ValPost (x : Except Nat (Pk.V × Pk.Bs)) (f : Pk.V → Value) (w : World) (r : Nat) (A : Option Addr) (n c : Nat) (e : Ending) (w' : World) : Prop :=
  match x with
  | .error q => e = .panicked (fault q) ∧ w.grownBy w' (some r)
  | .ok (v, t) => e = .returned (f v) ∧ RdAt w' r A n c (n - t.length) ∧ w.grownBy w' (some r)

theorem takeV_n (bs : Pk.Bs) : Pk.takeV 110 bs = match Pk.fold 0 0 bs with | .error e => .error e | .ok (u, r) => .ok ((Pk.zag u, ⟨#[]⟩), r) := by
  unfold Pk.takeV
  cases Pk.fold 0 0 bs with
  | error e => rfl
  | ok p => rfl

theorem numberV_any (r B : Nat) (A : Option Addr) (n c at_ : Nat) (l : Pk.Bs) (w : World) (hr : RdAt w r A n c at_) (hn : l.length = n) (hnc : n ≤ c) (hc : c ≤ maxLen) (hat : at_ ≤ n)
    (hb : BytesIn w B A l) (hB : B ≤ r) :
    Calls Try.prog 35 #[.pointer (some ⟨r, 0, none⟩)] w fun e w' => ValPost (Pk.takeV 110 (l.drop at_)) (fun v => .int .i64 v.1) w r A n c e w' := by
  refine (number_any r B A n c at_ l w hr hn hnc hc hat hb hB).mono ?_
  intro e w' h
  rw [takeV_n]
  cases hx : Pk.fold 0 0 (l.drop at_) with
  | error q => rw [hx] at h; exact h
  | ok p => rw [hx] at h; exact h

theorem takeV_t (ch : UInt8) (hch : ch ≠ 110) (bs : Pk.Bs) : Pk.takeV ch bs = match Pk.fold 0 0 bs with | .error e => .error e | .ok (u, r) => if Pk.zag u < 0 ∨ 1000 < Pk.zag u then .error 2 else if r.length < (Pk.zag u).toNat then .error 3 else .ok ((0, ⟨(r.take (Pk.zag u).toNat).toArray⟩), r.drop (Pk.zag u).toNat) := by
  unfold Pk.takeV
  cases Pk.fold 0 0 bs with
  | error e => rfl
  | ok p => simp only [if_neg hch]

theorem fold_rest (l : Pk.Bs) (at_ u : Nat) (t : Pk.Bs) (h : Pk.fold 0 0 (l.drop at_) = .ok (u, t)) : t.length ≤ l.length ∧ t = l.drop (l.length - t.length) := by
  obtain ⟨u', _, hb, _, _⟩ := Pk.fold_sound _ _ _ _ _ h
  have hl := congrArg List.length hb
  rw [List.length_append, List.length_drop] at hl
  have hle : t.length ≤ l.length := by omega
  refine ⟨hle, ?_⟩
  have h2 : l.drop (at_ + (Pk.num u').length) = t := by
    rw [← List.drop_drop, hb, List.drop_left]
  have h3 : at_ + (Pk.num u').length = l.length - t.length ∨ t = [] := by
    by_cases ha : at_ ≤ l.length
    · left; omega
    · right
      exact List.eq_nil_of_length_eq_zero (by omega)
  rcases h3 with h3 | h3
  · rw [← h3, h2]
  · subst h3; simp

set_option maxHeartbeats 1000000 in
set_option maxRecDepth 100000 in
theorem text_any (ch : UInt8) (hch : ch ≠ 110) (r B : Nat) (A : Option Addr) (n c at_ : Nat) (l : Pk.Bs) (w : World) (hr : RdAt w r A n c at_) (hn : l.length = n) (hnc : n ≤ c) (hc : c ≤ maxLen) (hat : at_ ≤ n)
    (hb : BytesIn w B A l) (hB : B ≤ r) :
    Calls Try.prog 36 #[.pointer (some ⟨r, 0, none⟩)] w fun e w' => ValPost (Pk.takeV ch (l.drop at_)) (fun v => .string v.2) w r A n c e w' := by
  have HF := Lib.hid (number_any r B A n c at_ l w hr hn hnc hc hat hb hB)
  have HT := Lib.hid (fun (W : World) (p k : Nat) (h1 : RdAt W r A n c p) (hk : k ≤ 1000) (h2 : p + k ≤ n) (h3 : w.grownBy W (some r)) => take_any r B A n c p k l W h1 hn hnc hc (by omega) hk (CellsIn.grown hb h3 hB (Nat.le_of_lt hr.lt)) hB h2)
  have HTS := Lib.hid (fun (W : World) (p k : Nat) (h1 : RdAt W r A n c p) (h0 : p ≤ n) (h2 : n < p + k) => take_short r A n c p k W h1 (Nat.le_trans hnc hc) h0 h2)
  have HFR := Lib.hid (fold_rest l at_)
  have HV := Lib.hid (takeV_t ch hch (l.drop at_))
  generalize Pk.takeV ch (l.drop at_) = Y at *
  generalize Pk.fold 0 0 (l.drop at_) = X at *
  rw [hn] at HFR
  clear hr hn hnc hc hb hB hch
  cases X with
  | error q =>
    go_enter Try.func36, Try.ntmps36
    go_wp2_with (go_at_call 35; refine HF.out.mono ?_; rintro e w1 ⟨rfl, hg1⟩; have HG1 := Lib.hid hg1; clear hg1)
    exact ⟨rfl, by rw [HV.out]; exact ⟨rfl, HG1.out⟩⟩
  | ok p =>
    obtain ⟨u, t⟩ := p
    obtain ⟨htl, hte⟩ := HFR.out u t rfl
    have HTE := Lib.hid hte
    have HF2 : Hid (Calls Try.prog 35 #[.pointer (some ⟨r, 0, none⟩)] w fun e w' => e = .returned (.int .i64 (Pk.zag u)) ∧ RdAt w' r A n c (n - t.length) ∧ w.grownBy w' (some r)) := HF.out
    simp only at HV
    clear HFR hte HF
    generalize Pk.zag u = z at *
    by_cases hz : z < 0 ∨ 1000 < z
    · rw [if_pos hz] at HV
      by_cases hz0 : z < 0
      · have d1 : decide (z < 0) = true := decide_eq_true hz0
        clear hz
        go_enter Try.func36, Try.ntmps36
        go_wp2_with (go_at_call 35; refine HF2.out.mono ?_; rintro e w1 ⟨rfl, hr1, hg1⟩; have HG1 := Lib.hid hg1; have HR1 := Lib.hid hr1; clear hg1 hr1)
        exact ⟨rfl, by rw [HV.out]; exact ⟨rfl, HG1.out⟩⟩
      · have d1 : decide (z < 0) = false := decide_eq_false hz0
        have d2 : decide ((1000 : Int) < z) = true := decide_eq_true (by omega)
        clear hz
        go_enter Try.func36, Try.ntmps36
        go_wp2_with (go_at_call 35; refine HF2.out.mono ?_; rintro e w1 ⟨rfl, hr1, hg1⟩; have HG1 := Lib.hid hg1; have HR1 := Lib.hid hr1; clear hg1 hr1)
        exact ⟨rfl, by rw [HV.out]; exact ⟨rfl, HG1.out⟩⟩
    · rw [if_neg hz] at HV
      obtain ⟨k, rfl⟩ := Int.eq_ofNat_of_zero_le (show 0 ≤ z by omega)
      have hk : k ≤ 1000 := by omega
      have d1 : decide ((k : Int) < 0) = false := decide_eq_false (by omega)
      have d2 : decide ((1000 : Int) < (k : Int)) = false := decide_eq_false (by omega)
      rw [Int.toNat_natCast] at HV
      clear hz
      by_cases hs : t.length < k
      · rw [if_pos hs] at HV
        have HCF : Hid (∀ w1, RdAt w1 r A n c (n - t.length) → Calls Try.prog 39 #[.pointer (some ⟨r, 0, none⟩), .int .i64 (k : Int)] w1 fun e w' => e = .panicked (fault 3) ∧ w1.grownBy w' (some r)) := fun w1 h1 => HTS.out w1 (n - t.length) k h1 (Nat.sub_le _ _) (by omega)
        go_enter Try.func36, Try.ntmps36
        go_wp2_with (first
          | (go_at_call 35; refine HF2.out.mono ?_; rintro e w1 ⟨rfl, hr1, hg1⟩; have HG1 := Lib.hid hg1; have HR1 := Lib.hid hr1; have HC1 := Lib.hid (HCF.out w1 hr1); clear hg1 hr1)
          | (go_at_call 39; refine HC1.out.mono ?_; rintro e w2 ⟨rfl, hg2⟩; have HG2 := Lib.hid (grown_trans HG1.out hg2 (.inl rfl)); clear hg2))
        exact ⟨rfl, by rw [HV.out]; exact ⟨rfl, HG2.out⟩⟩
      · rw [if_neg hs] at HV
        have HTK : Hid (((l.drop (n - t.length)).take k).length = k) := by unfold Hid; rw [← HTE.out, List.length_take]; omega
        have HDL : Hid (n - (t.drop k).length = n - t.length + k) := by unfold Hid; rw [List.length_drop]; omega
        have HCF : Hid (∀ w1, RdAt w1 r A n c (n - t.length) → w.grownBy w1 (some r) → Calls Try.prog 39 #[.pointer (some ⟨r, 0, none⟩), .int .i64 (k : Int)] w1 fun e w' => TakePost w1 r B A n c (n - t.length) k l e w') := fun w1 h1 h2 => HT.out w1 (n - t.length) k h1 hk (by omega) h2
        have HCV : Hid (∀ w2 A2 c2, BytesIn w2 B A2 ((l.drop (n - t.length)).take k) → (convert 25 9 (.slice A2 k c2)).run Try.prog w2 = .ok (.string ⟨(t.take k).toArray⟩) w2) := fun w2 A2 c2 h => by
          have := conv_str w2 B A2 _ c2 h
          rw [HTK.out, ← HTE.out] at this
          exact this
        go_enter Try.func36, Try.ntmps36
        go_wp2_with (first
          | (go_at_call 35; refine HF2.out.mono ?_; rintro e w1 ⟨rfl, hr1, hg1⟩; have HG1 := Lib.hid hg1; have HR1 := Lib.hid hr1; have HC1 := Lib.hid (HCF.out w1 hr1 hg1); clear hg1 hr1)
          | (go_at_call 39; refine HC1.out.mono ?_; rintro e w2 ⟨A2, c2, rfl, hb2, hr2, hg2⟩; have HG2 := Lib.hid (grown_trans HG1.out hg2 (.inl rfl)); have HR2 := Lib.hid hr2; have hcv := HCV.out w2 A2 c2 hb2; clear hg2 hr2 hb2))
        go_ret
        rw [HV.out]
        exact ⟨rfl, by rw [HDL.out]; exact HR2.out, HG2.out⟩

set_option maxHeartbeats 400000 in
theorem atEnd_any (r : Nat) (A : Option Addr) (n c k : Nat) (w : World) (hr : RdAt w r A n c k) :
    Calls Try.prog 31 #[.pointer (some ⟨r, 0, none⟩)] w fun e w' => e = .returned (.bool (decide (k = n))) ∧ ∃ m, w' = w.drewN m := by
  have h0 := hr.c0
  have h1 := hr.c1
  clear hr
  have HD : Hid (((k : Int) == (n : Int)) = decide (k = n)) := by
    unfold Hid
    by_cases h : k = n
    · subst h; simp
    · rw [decide_eq_false h]; exact beq_eq_false_iff_ne.2 (by omega)
  go_enter Try.func31, Try.ntmps31
  go_wp2
  go_quiet (fail)
  go_wp2
  go_ret
  exact ⟨by rw [← HD.out]; rfl, _, rfl⟩

set_option maxHeartbeats 400000 in
theorem num_any (x : Int) (w : World) : Calls Try.prog 13 #[.int .i64 x] w fun e w' => e = .returned (.agg #[.int .i64 x, .string ⟨#[]⟩]) ∧ w.grownBy w' none := by
  go_enter Try.func13, Try.ntmps13
  go_wp2
  simp [bodyPost, results, Try.results13, go_sem]
  exact grown_alloc _ _ _

set_option maxHeartbeats 400000 in
theorem txt_any (s : ByteArray) (w : World) : Calls Try.prog 14 #[.string s] w fun e w' => e = .returned (.agg #[.int .i64 0, .string s]) ∧ w.grownBy w' none := by
  go_enter Try.func14, Try.ntmps14
  go_wp2
  simp [bodyPost, results, Try.results14, go_sem]
  exact grown_alloc _ _ _

end Go.Proofs.Ythncabfeieombaa
