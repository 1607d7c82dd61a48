/- Contracts of package log: rows of records of its own; copyOf, ContainsFunc; the log's struct; Records, Generation, Left. -/
import Derived.Test.YtoocifoglhhnmaaLogFill
namespace Go.Proofs.Ytoocifoglhhnmaa
open Go.RowKit
set_option linter.unusedVariables false

/-- a row of records in memory of its own; what may turn: F -/
def RowsAt (W : World) (base : Nat) (F : Nat → Prop) (v : Value) (rs : List Dk.Bs) : Prop :=
  ∃ vs : List Value, W.ownsRow base 38 1 v rs.length vs ∧ (∀ k, v.ownBlock = some k → F k) ∧ ∀ (i : Nat) (r : Dk.Bs), rs[i]? = some r → ∃ u, vs[i]? = some u ∧ SlIn F W u r

theorem RowsAt.keep {G F : Nat → Prop} {W W' : World} {base : Nat} {v : Value} {rs : List Dk.Bs} (h : RowsAt W base F v rs) (hk : Kept G W W') (h1 : ∀ i, i < W.heap.size → G i → F i) (h2 : ∀ i, v.ownBlock = some i → ¬ G i) : RowsAt W' base F v rs := by
  obtain ⟨vs, ho, hF, hs⟩ := h
  refine ⟨vs, ?_, hF, fun i r hr => ?_⟩
  · obtain ⟨a, b⟩ := ho
    refine ⟨a, ?_⟩
    rcases b with b | ⟨g, cap, cur, hv, hg, hh, r⟩
    · exact .inl b
    · exact .inr ⟨g, cap, cur, hv, hg, (hk.block g (Array.getElem?_eq_some_iff.1 hh).1 (h2 g (by rw [hv]; rfl))).trans hh, r⟩
  · obtain ⟨u, e, hu⟩ := hs i r hr
    exact ⟨u, e, hu.keep (hk.wide h1)⟩
theorem RowsAt.wide {F G : Nat → Prop} {W : World} {base : Nat} {v : Value} {rs : List Dk.Bs} (h : RowsAt W base F v rs) (h1 : ∀ i, i < W.heap.size → G i → F i) (h2 : ∀ i, v.ownBlock = some i → G i) : RowsAt W base G v rs := by
  obtain ⟨vs, ho, hF, hs⟩ := h
  refine ⟨vs, ho, h2, fun i r hr => ?_⟩
  obtain ⟨u, e, hu⟩ := hs i r hr
  exact ⟨u, e, hu.less h1⟩
theorem RowsAt.slice {F : Nat → Prop} {W : World} {base : Nat} {v : Value} {rs : List Dk.Bs} (h : RowsAt W base F v rs) :
    ∃ A c, v = .slice A rs.length c ∧ rs.length ≤ c ∧ c ≤ maxLen ∧ ∀ G : Nat → Prop, (∀ i, i < W.heap.size → G i → F i) → (∀ i, v.ownBlock = some i → ¬ G i) → RowIn G W A rs := by
  obtain ⟨vs, ho, hF, hs⟩ := h
  have hl := ho.1
  rcases ho.2 with ⟨rfl, h0⟩ | ⟨g, cap, cur, rfl, hbg, hg, hnc, hcm, _⟩
  · refine ⟨none, 0, by rw [h0], by omega, by decide, fun G _ _ k r hr => ?_⟩
    rw [List.getElem?_eq_none (by omega)] at hr; cases hr
  · refine ⟨_, cap, rfl, hnc, hcm, fun G h1 h2 k r hr => ?_⟩
    obtain ⟨u, e, hu⟩ := hs k r hr
    exact ⟨_, u, rfl, (Array.getElem?_eq_some_iff.1 hg).1, h2 g rfl, ho.cells (g := g) rfl k u e, hu.less h1⟩
theorem RowsAt.nil (W : World) (base : Nat) (F : Nat → Prop) : RowsAt W base F (.slice none 0 0) [] := ⟨[], World.ownsRow_nil _ _ _ _, fun k hk => by simp [Value.ownBlock] at hk, fun i r hr => by simp at hr⟩

theorem own_unique {W : World} {base n : Nat} {v : Value} {xs ys : List Value} (h : W.ownsRow base 38 1 v n xs) (k : W.ownsRow base 38 1 v n ys) : xs = ys := by
  rcases h.2 with ⟨hv, h0⟩ | ⟨g, cap, cur, hv, _, hg, _, _, _, ht⟩
  · rw [List.eq_nil_of_length_eq_zero (l := xs) (by have := h.1; omega), List.eq_nil_of_length_eq_zero (l := ys) (by have := k.1; omega)]
  · rcases k.2 with ⟨hv', h0⟩ | ⟨g', cap', cur', hv', _, hg', _, _, _, ht'⟩
    · rw [hv'] at hv; cases hv
    · rw [hv'] at hv
      injection hv with hv1
      injection hv1 with hv1
      injection hv1 with hv1
      rw [hv1, hg] at hg'
      injection hg' with hg'
      injection hg' with hg'
      rw [← ht, ← ht', hg']

/-- what an append of a record leaves -/
def AppRow (W : World) (base : Nat) (F : Nat → Prop) (v : Value) (rs : List Dk.Bs) (r : Dk.Bs) (v' : Value) (w' : World) : Prop :=
  RowsAt w' base (fun i => F i ∨ v'.ownBlock = some i) v' (rs ++ [r]) ∧ Kept (fun i => v.ownBlock = some i) W w' ∧ (∀ i, v'.ownBlock = some i → v.ownBlock = some i ∨ W.heap.size ≤ i) ∧ (∀ i, v'.ownBlock = some i → i < w'.heap.size ∧ base ≤ i) ∧ ∃ A c, v' = .slice A (rs.length + 1) c

theorem rows_app (W : World) (base : Nat) (F : Nat → Prop) (v : Value) (rs : List Dk.Bs) (h : RowsAt W base F v rs) (hbase : base ≤ W.heap.size) (hlen : rs.length ≤ 100000) (u : Value) (r : Dk.Bs) (hu : SlIn F W u r) :
    ∃ v' w', (Builtin.append_ #[45, 45] 45 #[v, .slice (some ⟨W.heap.size, 0, none⟩) 1 1]).run Try.prog (W.alloc (.cells #[u] 38)) = .ok v' w' ∧ AppRow W base F v rs r v' w' := by
  obtain ⟨i0, hi0, hz0, hz1, hz2⟩ := info_parts3 row_info
  have hub : u.oneCell' = true := by obtain ⟨B, c, rfl, _⟩ := hu; rfl
  have hk1 : Kept No W (W.alloc (.cells #[u] 38)) := (Kept.refl No W).alloc _
  have hold : ∀ i, v.ownBlock = some i → i < W.heap.size := by obtain ⟨vs, ho, _⟩ := h; exact fun i hi => (ho.lt i hi).2
  have h' := h.keep hk1 (fun _ _ => False.elim) (fun _ _ => id)
  obtain ⟨vs, hown, hF, hs⟩ := h'
  obtain ⟨v', w', h1, h2, h3, _, h5⟩ := run_append_own_at (P := Try.prog) (W.alloc (.cells #[u] 38)) base 45 45 38 i0 _ 1 24 Try.underlying45 hi0 hz0 hz1 hz2 rfl (by omega) v rs.length vs hown ⟨W.heap.size, 0, none⟩ 1 1 [u] rfl
    (World.news_of_block (cs := #[u]) (heap_alloc_new W _)) (by intro x hx; simp at hx; subst hx; exact hub) (by unfold maxLen; omega) (by omega) (by simp; omega)
  have hk2 : Kept (fun i => v.ownBlock = some i) W w' := (((Kept.refl _ W).alloc _).grown h3 (fun k hk => .inl hk))
  have hn : ∀ i, v'.ownBlock = some i → v.ownBlock = some i ∨ W.heap.size ≤ i := fun i hi => by
    rcases h5 with e | e
    · exact .inl (by rw [← e]; exact hi)
    · rw [e] at hi; injection hi with hi; right; simp at hi; omega
  have hkF : Kept F W w' := hk2.wide (fun i _ hi => hF i hi)
  have hside : ∀ (x : Value) (y : Dk.Bs), SlIn F W x y → SlIn (fun i => F i ∨ v'.ownBlock = some i) w' x y := by
    rintro x y ⟨B, c, e, c1, c2, hb⟩
    refine ⟨B, c, e, c1, c2, fun k z hz => ?_⟩
    obtain ⟨ad, e1, e2, e3, e4⟩ := hb k z hz
    obtain ⟨ad', e1', e2', e3', e4'⟩ := (CellsIn.keep hb hkF) k z hz
    rw [e1] at e1'
    obtain rfl := Option.some.inj e1'
    refine ⟨ad, e1, e2', ?_, e4'⟩
    rintro (hf | hf)
    · exact e3 hf
    · rcases hn _ hf with h | h
      · exact e3 (hF _ h)
      · omega
  refine ⟨v', w', h1, ⟨vs ++ [u], ?_, fun k hk => .inr hk, fun i y hy => ?_⟩, hk2, hn, fun i hi => ⟨(h2.lt i hi).2, (h2.lt i hi).1⟩, ?_⟩
  · rw [List.length_append]; exact h2
  · have hl : vs.length = rs.length := by simpa using hown.1
    by_cases hi : i < rs.length
    · rw [List.getElem?_append_left hi] at hy
      obtain ⟨x, ex, hx⟩ := h.choose_spec.2.2 i y hy
      have hvv : h.choose = vs := own_unique (own_keep h.choose_spec.1 hk1 (fun _ _ => id)) hown
      rw [hvv] at ex
      exact ⟨x, by rw [List.getElem?_append_left (by omega)]; exact ex, hside x y hx⟩
    · have hir : i = rs.length := by
        have := (List.getElem?_eq_some_iff.1 hy).1
        simp at this
        omega
      subst hir
      rw [List.getElem?_append_right (Nat.le_refl _), Nat.sub_self] at hy
      obtain rfl := Option.some.inj hy
      exact ⟨u, by rw [List.getElem?_append_right (by omega), hl, Nat.sub_self]; rfl, hside u _ hu⟩
  · rcases h2.2 with ⟨_, h0⟩ | ⟨g, cap, cur, e, _⟩
    · omega
    · exact ⟨_, _, e⟩

/-- records made anew -/
def Fresh (w : World) (v : Value) (rs : List Dk.Bs) (w' : World) : Prop :=
  RowsAt w' w.heap.size (fun i => i < w.heap.size ∨ v.ownBlock = some i) v rs ∧ Below w.heap.size w w' ∧ ∃ A c, v = .slice A rs.length c

theorem copied_sl {w w' : World} {r : Dk.Bs} {v : Value} (h : Copied w r.length r v w') (F : Nat → Prop) (hF : ∀ i, F i → i < w.heap.size) : SlIn F w' v r := by
  obtain ⟨A, c, e, h1, h2, h3, h4⟩ := h
  exact ⟨A, c, e, h1, h2, CellsIn.less h3 (fun i _ hi => hF i hi)⟩

set_option maxHeartbeats 1000000 in
set_option maxRecDepth 100000 in
theorem copyOf_any (A : Option Addr) (m c : Nat) (rs : List Dk.Bs) (w : World) (hm : rs.length = m) (hm2 : m ≤ 10000) (hl : ∀ r ∈ rs, r.length ≤ 10000) (hb : RowIn No w A rs) :
    Calls Try.prog 52 #[.slice A m c] w fun e w' => ∃ v, e = .returned v ∧ Fresh w v rs w' := by
  have HB := Lib.hid hb
  have HM := Lib.hid hm
  have HL := Lib.hid hl
  clear hb hm hl
  go_enter Try.func52, Try.ntmps52
  go_wp2
  go_loopg [3, 8] m (fun gk s3 s8 W => ∃ (k : Nat), k + gk = m ∧ s8 = .int .i64 k ∧ Hid (RowsAt W w.heap.size (fun i => i < w.heap.size ∨ s3.ownBlock = some i) s3 (rs.take k)) ∧ Hid (Below w.heap.size w W))
  case atStart => exact ⟨0, by omega, rfl, RowsAt.nil _ _ _, Below.refl _ _⟩
  case round =>
    obtain ⟨k, hkg, rfl, HR, HBE⟩ := hrel
    cases gk with
    | zero =>
      obtain rfl : k = m := by omega
      have HE : Hid (rs.take k = rs) := List.take_of_length_le (by rw [HM.out]; exact Nat.le_refl _)
      rw [HE.out] at HR
      go_wp2
      go_ret
      obtain ⟨A', c', e, _⟩ := HR.out.slice
      exact ⟨_, rfl, HR.out, HBE.out, A', c', e⟩
    | succ q =>
      obtain ⟨b, hb⟩ := some_at rs k (by rw [HM.out]; omega)
      obtain ⟨ad, v, rfl, _, _, hc, B, cc, rfl, hcc, _, hby⟩ := (HB.out.keep (Kept.of_below HBE.out)) k b hb
      have hbl := HL.out b (List.mem_of_getElem? hb)
      have HT : Hid (rs.take (k + 1) = rs.take k ++ [b]) := by unfold Hid; rw [List.take_add_one, hb]; rfl
      have HTL : Hid ((rs.take k).length = k) := by unfold Hid; rw [List.length_take, HM.out]; omega
      have HCL := Lib.hid (clone_any B b.length cc b wr rfl (by omega) hby)
      clear hb hby
      go_wp2_with fail
      refine HCL.out.mono ?_
      rintro e w1 ⟨u, rfl, hcp⟩
      have hr1 : RowsAt w1 w.heap.size (fun i => i < w.heap.size ∨ u3.ownBlock = some i) u3 (rs.take k) := HR.out.keep (G := No) (Kept.of_below hcp.choose_spec.choose_spec.2.2.2.2) (fun _ _ => False.elim) (fun _ _ => id)
      have hwl : w.heap.size ≤ wr.heap.size := HBE.out.size
      have hub : SlIn (fun i => i < w.heap.size ∨ u3.ownBlock = some i) w1 u b := copied_sl hcp _ (by
        rintro i (h | h)
        · omega
        · exact (HR.out.choose_spec.1.lt i h).2)
      have hbw : Below wr.heap.size wr w1 := hcp.choose_spec.choose_spec.2.2.2.2
      have HBE1 := Lib.hid (HBE.out.trans (hbw.mono hwl))
      have HA := Lib.hid (rows_app w1 w.heap.size _ u3 (rs.take k) hr1 HBE1.out.size (by rw [HTL.out]; omega) u b hub)
      obtain ⟨Bu, cu, rfl, _⟩ := hub
      clear hr1 hbw hcp
      go_wp2_with (at_builtin; refine wpList_append_any rfl (.tmp 12) (.tmp 15) 45 45 rfl _ _ rfl rfl _ HA.out ?_; intro v2 w2 hap; have HAP := Lib.hid hap; clear hap)
      go_roundg q
      case measure => omega
      case rel =>
        refine ⟨k + 1, by omega, by first | rfl | go_num, ?_, ?_⟩
        · rw [HT.out]
          refine RowsAt.wide HAP.out.1 (fun i _ hi => ?_) (fun i hi => .inr hi)
          rcases hi with hi | hi
          · exact .inl (.inl hi)
          · exact .inr hi
        · refine HAP.out.2.1.below HBE1.out HBE1.out.size (fun i hi e => ?_)
          have := (HR.out.choose_spec.1.lt i e).1
          omega

end Go.Proofs.Ytoocifoglhhnmaa
