/- The document's log: Append. -/
import Derived.Test.YtoocifoglhhnmaaLogRefH
namespace Go.Proofs.Ytoocifoglhhnmaa
open Go.RowKit
set_option linter.unusedVariables false

def RA1 (W : World) (F : Nat → Prop) (rs : List Dk.Bs) (k : Nat) (v1 : Value) (w1 : World) : Prop :=
  ∃ A1 c1, v1 = .slice A1 k c1 ∧ Hid (RowsAt w1 W.heap.size (fun i => F i ∨ v1.ownBlock = some i) v1 rs ∧ Below W.heap.size W w1 ∧ ∀ i, v1.ownBlock = some i → W.heap.size ≤ i)
theorem radd1 {W : World} {F : Nat → Prop} {A : Option Addr} {rs : List Dk.Bs} (c k : Nat) (hF : ∀ i, F i → i < W.heap.size) (hlen : rs.length ≤ 50000) (hrow : RowIn F W A rs) (hk : rs.length = k) :
    ∃ v' w', (Builtin.append_ #[45, 45] 45 #[.slice (some ⟨W.heap.size, 0, none⟩) 0 0, .slice A k c]).run Try.prog (W.alloc (.cells #[] 38)) = .ok v' w' ∧ RA1 W F rs k v' w' := by
  subst hk
  obtain ⟨vs, v1, w1, k1, k2, k3, k4⟩ := way_one (c := c) hF hlen hrow ((Kept.refl No W).alloc (.cells #[] 38)) (heap_alloc_new W _) (Nat.le_refl _)
  have hk1 : Kept No W w1 := ((Kept.refl No W).alloc _).step k3 (fun i hi e => by omega)
  have hge : ∀ i, v1.ownBlock = some i → W.heap.size ≤ i := fun i hi => (k2.lt i hi).1
  obtain ⟨A1, c1, e1, _⟩ := ownsRow_slice k2
  refine ⟨v1, w1, k1, A1, c1, e1, ⟨vs, k2, fun i hi => .inr hi, fun i r hr => ?_⟩, hk1.below (Below.refl _ _) (Nat.le_refl _) (fun _ _ => id), hge⟩
  obtain ⟨u, hu, hs⟩ := k4 i r hr
  refine ⟨u, hu, (SlIn.less (F := F) hs (fun i hi e => ?_)).keep (hk1.wide (fun _ _ => False.elim))⟩
  rcases e with e | e
  · exact e
  · have := hge i e
    omega

def RA3 (W : World) (F : Nat → Prop) (rs : List Dk.Bs) (k : Nat) (v3 : Value) (w3 : World) : Prop :=
  ∃ A3 c3, v3 = .slice A3 k c3 ∧ Hid (RowIn F w3 A3 rs ∧ Below W.heap.size W w3)
theorem radd3 {W w1 w2 : World} {F : Nat → Prop} {rs : List Dk.Bs} {k : Nat} {v1 : Value} (hF : ∀ i, F i → i < W.heap.size) (hlen : rs.length ≤ 50000) (hk : rs.length = k) (h1 : Hid (RowsAt w1 W.heap.size (fun i => F i ∨ v1.ownBlock = some i) v1 rs ∧ Below W.heap.size W w1 ∧ ∀ i, v1.ownBlock = some i → W.heap.size ≤ i)) {A2 : Option Addr} {m c2 : Nat} {b : Dk.Bs} (hm : b.length = m) (h2 : RowO w1 w2 (.slice A2 m c2) b) :
    ∃ v' w', (Builtin.append_ #[45, 45] 45 #[v1, .slice (some ⟨w2.heap.size, 0, none⟩) 1 1]).run Try.prog (w2.alloc (.cells #[.slice A2 m c2] 38)) = .ok v' w' ∧ RA3 W F (rs ++ [b]) (k + 1) v' w' := by
  subst hk
  obtain ⟨r1, r2, r3⟩ := h1.out
  have hs1 := r2.size
  have hs2 := h2.bel.size
  have hlt : ∀ i, v1.ownBlock = some i → i < w1.heap.size := fun i hi => by obtain ⟨vs, ho, _⟩ := r1; exact (ho.lt i hi).2
  obtain ⟨Ay, cy, ey, hm3, hc3, hby3⟩ := h2.own.slice
  injection ey with ey1 ey2 ey3
  subst ey1 ey3
  have hb2 : Below W.heap.size W w2 := r2.trans (h2.bel.mono hs1)
  obtain ⟨v', w', e0, a1, a2, a3, a4, A', c', e'⟩ := rows_app w2 W.heap.size (fun i => F i ∨ v1.ownBlock = some i) v1 rs (r1.keep (G := No) (Kept.of_below h2.bel) (fun _ _ => False.elim) (fun _ _ => id)) (by omega) (by omega) (.slice A2 m c2) b ⟨A2, c2, by rw [hm], hm3, hc3, hby3 _ (fun i hi => by
    rcases hi with hi | hi
    · have := hF i hi; omega
    · exact hlt i hi)⟩
  refine ⟨v', w', e0, A', c', e', ?_, a2.below hb2 (by omega) (fun i hi e => by have := r3 i e; omega)⟩
  obtain ⟨Az, cz, ez, _, _, hrow⟩ := a1.slice
  rw [e'] at ez
  injection ez with ez1 ez2 ez3
  subst ez1
  refine hrow F (fun i _ hi => .inl (.inl hi)) (fun i hi hf => ?_)
  have := hF i hf
  rcases a3 i hi with e | e
  · have := r3 i e; omega
  · omega

set_option maxHeartbeats 2000000 in
set_option maxRecDepth 100000 in
theorem rapp_any (G : Nat → Prop) (lb g s n z : Nat) (x : Lg.L) (d : Dk.D) (A : Option Addr) (m c : Nat) (b : Dk.Bs) (w : World) (hG : ∀ i, G i → i < w.heap.size) (h : RLog w G lb g s n x d) (hz : n / 2 = z) (hw : d.writes ≤ 900000) (hm : b.length = m) (hmc : m ≤ c) (hcx : c ≤ maxLen) (hb : BytesIn (Lb lb g s) w A b) (q : Dk.D × Int × Lg.L) (hq : Lg.appS n d x b = q) :
    Calls Try.prog 17 #[.pointer (some ⟨lb, 0, none⟩), .slice A m c] w fun e w' => e = .returned (.int .i64 q.2.1) ∧ RLog w' G lb g s n q.2.2 q.1 ∧ Kept (Lb lb g s) w w' := by
  obtain ⟨hf, gg, recs, fin, bro⟩ := x
  have HG := Lib.hid hG
  clear hG
  have HL := Lib.hid h
  obtain ⟨⟨A0, c0, ht, hrow⟩, hdk, hgood⟩ := h
  have HD := Lib.hid hdk
  have HNG := Lib.hid (ht.ng hdk)
  have hn1 := hdk.n1
  have hhf := hgood.half
  have hg1 := hgood.g1
  have hg0 := hgood.g0
  have hfn := hgood.fin
  have hcnt := hgood.cnt
  have hll := hgood.len
  simp only at ht hrow hhf hg0 hg1 hfn hcnt hll
  rw [hz] at hfn
  have HLL := Lib.hid hll
  have HZ := Lib.hid hz
  have HT := Lib.hid ht
  have HROW := Lib.hid hrow
  have HM := Lib.hid hm
  have HB := Lib.hid hb
  have HQ := Lib.hid hq
  obtain ⟨k, hk⟩ : ∃ k, recs.length = k := ⟨_, rfl⟩
  rw [hk] at hcnt HT
  have HK := Lib.hid hk
  have hz4 : z ≤ 2048 := by omega
  clear hgood hdk ht hrow hll hz hm hb hq hk
  cases bro with
  | true =>
    have HE : Hid (q = (d, 7, ⟨hf, gg, recs, fin, true⟩)) := by rw [← HQ.out]; unfold Lg.appS; rw [if_pos rfl]; rfl
    have x5 := HT.out.cell 5 (.bool true) rfl
    go_enter Try.func17, Try.ntmps17
    go_wp2
    go_ret
    exact ⟨by rw [HE.out]; rfl, by rw [HE.out]; exact HL.out, Kept.refl _ _⟩
  | false =>
  have x5 := HT.out.cell 5 (.bool false) rfl
  by_cases h200 : 200 < m
  · have HE : Hid (q = (d, 1, ⟨hf, gg, recs, fin, false⟩)) := by rw [← HQ.out]; unfold Lg.appS; rw [if_neg (by simp), HM.out, if_pos h200]; rfl
    have d1 : decide ((200 : Int) < (m : Int)) = true := decide_eq_true (by omega)
    go_enter Try.func17, Try.ntmps17
    go_wp2
    go_ret
    exact ⟨by rw [HE.out]; rfl, by rw [HE.out]; exact HL.out, Kept.refl _ _⟩
  have d1 : decide ((200 : Int) < (m : Int)) = false := decide_eq_false (by omega)
  obtain ⟨K, hK⟩ : ∃ K, Lg.secs m = K := ⟨_, rfl⟩
  obtain ⟨LG, hLG⟩ : ∃ LG, 32 * K = LG := ⟨_, rfl⟩
  have hK7 : K ≤ 7 := by rw [← hK]; exact Lg.secs_le m (by omega)
  have hK1 : 1 ≤ K := by rw [← hK]; exact Lg.secs_pos m
  have hdiv : (LG : Int) / 32 = (K : Int) := by omega
  have x2 := HT.out.cell 2 (.int .i64 (gg : Int)) rfl
  have x3 := HT.out.cell 3 (.slice A0 k c0) rfl
  have HLA : Hid (Calls Try.prog 28 #[.slice A m c, .int .i64 gg, .int .i64 k] w.drew fun e w' => ∃ A1 c1, e = .returned (.slice A1 LG c1) ∧ (w'.cell? ⟨lb, 2, none⟩ = some (.int .i64 (gg : Int)) ∧ w'.cell? ⟨lb, 3, none⟩ = some (.slice A0 k c0)) ∧ Hid (OwnB w' w.heap.size (.slice A1 LG c1) (Lg.recd b gg k) ∧ Below w.heap.size w w')) := by
    have := rlaid_any A m c b gg k w.drew HM.out (by omega) hmc hcx (by omega) (by omega) (CellsIn.less (CellsIn.keep HB.out (Kept.of_below (below_drew w))) (fun _ _ => False.elim))
    rw [hK, hLG] at this
    refine this.mono fun e w' ⟨A1, c1, e1, e2, e3⟩ => ?_
    have hb' : Below w.heap.size w w' := ⟨e3.os, e3.tape, e3.output, e3.size, e3.block⟩
    have ht := HT.out.below hb'
    exact ⟨A1, c1, e1, ⟨ht.cell 2 _ rfl, ht.cell 3 _ rfl⟩, e2, hb'⟩
  have HKK := Lib.hid hK
  have HLGG := Lib.hid hLG
  have hLG3 : LG ≤ 300 := by omega
  clear hK hLG
  go_enter Try.func17, Try.ntmps17
  go_wp2_with fail
  go_region_held3 (fun w' => w'.cell? ⟨lb, 2, none⟩ = some (.int .i64 (gg : Int)) ∧ w'.cell? ⟨lb, 3, none⟩ = some (.slice A0 k c0)) (first | exact hs1 | exact ⟨x2, x3⟩)
    (first | (go_at_call 28; refine HLA.out.mono ?_; rintro e w1 ⟨A1, c1, rfl, hs1, HR1⟩))
  clear HLA hs1 x2 x3 x5
  have HT1 := Lib.hid (HT.out.below HR1.out.2)
  have HD1 := Lib.hid (HD.out.below HR1.out.2)
  have y0 := HT1.out.cell 0 (.pointer (some ⟨g, 0, none⟩)) rfl
  have y4 := HT1.out.cell 4 (.int .i64 (fin : Int)) rfl
  have HPE : Hid (Calls Try.prog 46 #[.pointer (some ⟨g, 0, none⟩)] w1.drew fun e w' => e = .returned (.int .i64 (z : Nat)) ∧ (w'.cell? ⟨lb, 0, none⟩ = some (.pointer (some ⟨g, 0, none⟩)) ∧ w'.cell? ⟨lb, 4, none⟩ = some (.int .i64 (fin : Int))) ∧ w1.drew = w') := (rper_any g s n z d w1.drew (HD1.out.keep (F := No) (Kept.refl No _).drew id id) HZ.out).mono fun e w' ⟨e1, e2⟩ => ⟨e1, by subst e2; exact ⟨y0, y4⟩, e2⟩
  have hwf : IntKind.i64.wrap ((fin : Int) + (K : Int)) = (fin : Int) + (K : Int) := by rw [IntKind.wrap_i64]; omega
  have hwK : IntKind.i64.wrap (K : Int) = (K : Int) := by rw [IntKind.wrap_i64]; omega
  by_cases hroom : z < fin + K
  · have HE : Hid (q = (d, 4, ⟨hf, gg, recs, fin, false⟩)) := by rw [← HQ.out]; unfold Lg.appS; rw [if_neg (by simp), HM.out, if_neg h200, HZ.out, HKK.out, if_pos (by simp only; omega)]; rfl
    have d2 : decide ((z : Int) < (fin : Int) + (K : Int)) = true := decide_eq_true (by omega)
    have d3 : decide (z < fin + K) = true := decide_eq_true hroom
    go_wp2_with fail
    go_region_held3 (fun w' => w'.cell? ⟨lb, 0, none⟩ = some (.pointer (some ⟨g, 0, none⟩)) ∧ w'.cell? ⟨lb, 4, none⟩ = some (.int .i64 (fin : Int))) (first | exact hs2 | exact ⟨y0, y4⟩)
      (first | (go_at_call 46; refine HPE.out.mono ?_; rintro e w2 ⟨rfl, hs2, rfl⟩))
    go_wp2
    go_ret
    have hk : Kept (Lb lb g s) w w1.drew := (Kept.of_below HR1.out.2).drew
    exact ⟨by rw [HE.out]; rfl, by rw [HE.out]; exact ⟨⟨A0, c0, HL.out.top.choose_spec.choose_spec.1.below HR1.out.2 |> fun _ => by simp only; rw [HK.out]; exact HT1.out, (HROW.out.keep (hk.wide (fun i _ => .inl)))⟩, HD1.out.keep (F := No) (Kept.refl No _).drew id id, HL.out.good⟩, hk⟩
  have d2 : decide ((z : Int) < (fin : Int) + (K : Int)) = false := decide_eq_false (by omega)
  have d3 : decide (z < fin + K) = false := decide_eq_false hroom
  go_wp2_with fail
  go_region_held3 (fun w' => w'.cell? ⟨lb, 0, none⟩ = some (.pointer (some ⟨g, 0, none⟩)) ∧ w'.cell? ⟨lb, 4, none⟩ = some (.int .i64 (fin : Int))) (first | exact hs2 | exact ⟨y0, y4⟩)
    (first | (go_at_call 46; refine HPE.out.mono ?_; rintro e w2 ⟨rfl, hs2, rfl⟩))
  have HT2 := Lib.hid (HT1.out.below (below_drew w1))
  have HD2 := Lib.hid (HD1.out.below (below_drew w1))
  have HB2 : Hid (Below w.heap.size w w1.drew) := HR1.out.2.trans ((below_drew w1).mono HR1.out.2.size)
  have HO2 : Hid (OwnB w1.drew w.heap.size (.slice A1 LG c1) (Lg.recd b gg k)) := HR1.out.1.below (below_drew w1)
  clear y0 y4 HPE hs2 HR1 HT1 HD1
  generalize w1.drew = W2 at *
  have HLN : Hid ((Lg.recd b gg k).length = LG) := by unfold Hid; rw [Lg.recd_len, HM.out, HKK.out, HLGG.out]
  obtain ⟨y, hy⟩ : ∃ y, Lg.layS n (Lg.start n hf + fin) (Lg.recd b gg k) (K - 1) 1 d = y := ⟨_, rfl⟩
  have HE0 : Hid (q = Lg.appEnd ⟨hf, gg, recs, fin, false⟩ b y) := by
    unfold Hid
    rw [← HQ.out, ← hy]
    unfold Lg.appS
    rw [if_neg (by simp), HM.out, if_neg h200, HZ.out, HKK.out, if_neg (by simp only; omega)]
    simp only
    rw [HK.out]
  have x0 := HT2.out.cell 0 (.pointer (some ⟨g, 0, none⟩)) rfl
  have x1 := HT2.out.cell 1 (.int .i64 (hf : Int)) rfl
  have x4 := HT2.out.cell 4 (.int .i64 (fin : Int)) rfl
  have HLY : Hid (Calls Try.prog 47 #[.pointer (some ⟨g, 0, none⟩), .int .i64 hf, .int .i64 fin, .slice A1 LG c1] W2.drew fun e w' => e = .returned (.int .i64 y.2) ∧ (w'.cell? ⟨lb, 0, none⟩ = some (.pointer (some ⟨g, 0, none⟩)) ∧ w'.cell? ⟨lb, 1, none⟩ = some (.int .i64 (hf : Int)) ∧ w'.cell? ⟨lb, 4, none⟩ = some (.int .i64 (fin : Int))) ∧ Hid (RDiskAt w' g s n y.1 ∧ Kept (Two g s) W2 w')) := by
    have h1 := HD.out.ltg
    have h2 := HD.out.lts
    have hsl := Lg.start_le (n := n) hhf
    rw [HZ.out] at hsl
    obtain ⟨Ax, cx, ex, hc1, _, hby⟩ := (HO2.out.below (below_drew W2)).slice
    injection ex with e1 e2 e3
    subst e1 e3
    have := rlay_any g s n z hf fin K d A1 LG c1 (Lg.recd b gg k) W2.drew (HD2.out.keep (F := No) (Kept.refl No _).drew id id) HZ.out hhf hK1 (by omega) (by omega) HLN.out HLGG.out.symm (by rw [HLN.out] at hc1; exact hc1) (hby _ (fun i hi => by rcases hi with e | e <;> omega))
    rw [hy] at this
    refine this.mono fun e w' ⟨e1, e2, e3⟩ => ?_
    have hk : Kept (Two g s) W2 w' := ⟨e3.os, e3.tape, e3.output, e3.size, e3.block⟩
    have ht := HT2.out.keep hk HNG.out
    exact ⟨e1, ⟨ht.cell 0 _ rfl, ht.cell 1 _ rfl, ht.cell 4 _ rfl⟩, e2, hk⟩
  clear hy d1 d2 d3
  go_wp2_with fail
  go_region_held3 (fun w' => w'.cell? ⟨lb, 0, none⟩ = some (.pointer (some ⟨g, 0, none⟩)) ∧ w'.cell? ⟨lb, 1, none⟩ = some (.int .i64 (hf : Int)) ∧ w'.cell? ⟨lb, 4, none⟩ = some (.int .i64 (fin : Int))) (first | exact hs3 | exact ⟨x0, x1, x4⟩)
    (first | (go_at_call 47; refine HLY.out.mono ?_; rintro e w3 ⟨rfl, hs3, HR3⟩))
  have HT3 := Lib.hid (HT2.out.keep HR3.out.2 HNG.out)
  have HD3 := Lib.hid HR3.out.1
  have HK3 : Hid (Kept (Lb lb g s) w w3) := (Kept.of_below HB2.out).trans (HR3.out.2.wide (fun i _ e => .inl e))
  clear hs3 HLY x0 x1 x4 HR3 HT2 HD2 HB2 HO2
  by_cases hy0 : y.2 = 0
  case neg =>
    have HE : Hid (q = (y.1, y.2, ⟨hf, gg, recs, fin, true⟩)) := by rw [HE0.out]; unfold Lg.appEnd; rw [if_neg hy0]; rfl
    have d5 : (y.2 != 0) = true := bne_iff_ne.2 hy0
    have z5 := HT3.out.cell 5 (.bool false) rfl
    have f5 := HT3.out.fz 5
    have HT4 : Hid (RTop (w3.setCell ⟨lb, 5, none⟩ (.bool true)) lb g hf gg (.slice A0 k c0) fin true) := HT3.out.set 5 (.bool true) rfl
    have HK4 : Hid (Kept (Lb lb g s) w (w3.setCell ⟨lb, 5, none⟩ (.bool true))) := HK3.out.setCell (p := ⟨lb, 5, none⟩) (.inl (.inr rfl)) _
    have HD4 : Hid (RDiskAt (w3.setCell ⟨lb, 5, none⟩ (.bool true)) g s n y.1) := HD3.out.keep (F := fun i => i = lb) ((Kept.refl (fun i => i = lb) w3).setCell (p := ⟨lb, 5, none⟩) (.inl rfl) _) (fun e => HNG.out (.inl e.symm)) (fun e => HNG.out (.inr e.symm))
    go_wp2
    go_ret
    refine ⟨by rw [HE.out]; rfl, by rw [HE.out]; exact ⟨⟨A0, c0, by simp only; rw [HK.out]; exact HT4.out, HROW.out.keep (HK4.out.wide (fun i _ => .inl))⟩, HD4.out, good_bro HL.out.good⟩, HK4.out⟩
  have HE : Hid (q = (y.1, 0, ⟨hf, gg, recs ++ [b], fin + K, false⟩)) := by rw [HE0.out]; unfold Lg.appEnd; rw [if_pos hy0]; simp only; rw [HM.out, HKK.out]; rfl
  have d5 : (y.2 != 0) = false := by rw [hy0]; rfl
  have z3 : (w3.alloc (.cells #[] 38)).cell? ⟨lb, 3, none⟩ = some (.slice A0 k c0) := (HT3.out.below (below_alloc w3 _)).cell 3 _ rfl
  have HFL : Hid (∀ i, (Lb lb g s i ∨ G i) → i < w3.heap.size) := fun i hi => by
    have h1 := HD3.out.ltg
    have h2 := HD3.out.lts
    have h3 := HT3.out.lt
    rcases hi with ((e | e) | e) | e
    · omega
    · omega
    · omega
    · have h4 := HG.out i e
      have h5 := HK3.out.size
      omega
  have HRL : Hid (recs.length ≤ 50000) := by unfold Hid; rw [HK.out]; omega
  have HA1 := Lib.hid (radd1 c0 k HFL.out HRL.out (HROW.out.keep (HK3.out.wide (fun i _ => .inl))) HK.out)
  have HBX : Hid (∀ W, Below w3.heap.size w3 W → BytesIn No W A b) := fun W hb => CellsIn.less (CellsIn.keep (CellsIn.keep HB.out HK3.out) (Kept.of_below hb)) (fun _ _ => False.elim)
  have HA2 : Hid (∀ w4 : World, Below w3.heap.size w3 w4 → ∃ v' w', (Builtin.append_ #[38, 38] 38 #[.slice (some ⟨w4.heap.size, 0, none⟩) 0 0, .slice A m c]).run Try.prog (w4.alloc (.cells #[] 5)) = .ok v' w' ∧ RowR w4 b m v' w') := fun w4 hb4 => by
    have ho : RowO w4 (w4.alloc (.cells #[] 5)) (.slice (some ⟨w4.heap.size, 0, none⟩) 0 0) [] := ⟨own_empty w4 w4.heap.size (Nat.le_refl _) 5 1, below_alloc _ _⟩
    exact ho.app No A m c b HM.out (HBX.out _ (hb4.trans ((below_alloc w4 _).mono hb4.size))) m (by simp) (by omega)
  have HA3 : Hid (∀ w4 v4 w5 A5 c5, Hid (RowsAt w4 w3.heap.size (fun i => (Lb lb g s i ∨ G i) ∨ v4.ownBlock = some i) v4 recs ∧ Below w3.heap.size w3 w4 ∧ ∀ i, v4.ownBlock = some i → w3.heap.size ≤ i) → Hid (RowO w4 w5 (.slice A5 m c5) b) → ∃ v' w', (Builtin.append_ #[45, 45] 45 #[v4, .slice (some ⟨w5.heap.size, 0, none⟩) 1 1]).run Try.prog (w5.alloc (.cells #[.slice A5 m c5] 38)) = .ok v' w' ∧ ∃ A6 c6, v' = .slice A6 (k + 1) c6 ∧ (w'.cell? ⟨lb, 3, none⟩ = some (.slice A0 k c0) ∧ w'.frozen? ⟨lb, 3, none⟩ = false ∧ w'.cell? ⟨lb, 4, none⟩ = some (.int .i64 (fin : Int)) ∧ w'.frozen? ⟨lb, 4, none⟩ = false) ∧ Hid (RowIn (fun i => Lb lb g s i ∨ G i) w' A6 (recs ++ [b]) ∧ Below w3.heap.size w3 w')) := fun w4 v4 w5 A5 c5 h1 h2 => by
    obtain ⟨v', w', e0, A6, c6, e6, h6⟩ := radd3 HFL.out HRL.out HK.out h1 HM.out h2.out
    have ht := HT3.out.below h6.out.2
    exact ⟨v', w', e0, A6, c6, e6, ⟨ht.cell 3 _ rfl, ht.fz 3, ht.cell 4 _ rfl, ht.fz 4⟩, h6⟩
  clear HE0
  go_wp2_with (at_builtin; first
    | (refine wpList_append_any rfl (.tmp 65) (.tmp 69) 45 45 rfl _ _ rfl rfl _ (HA3.out w4 _ w5 A5 c5 HR4 HR5) ?_; intro v6 w6 hap; obtain ⟨A6, c6, rfl, ⟨u3, g3, u4, g4⟩, HR6⟩ := hap)
    | (refine wpList_append_any rfl (.tmp 66) (.tmp 67) 38 38 rfl _ _ rfl rfl _ (HA2.out w4 HR4.out.2.1) ?_; intro v5 w5 hap; obtain ⟨A5, c5, rfl, HR5⟩ := hap)
    | (refine wpList_append_any rfl (.tmp 60) (.tmp 64) 45 45 rfl _ _ rfl rfl _ HA1.out ?_; intro v4 w4 hap; obtain ⟨A4, c4, rfl, HR4⟩ := hap))
  go_ret
  have hb6 := HR6.out.2
  have ht6 := HT3.out.below hb6
  have hd6 := HD3.out.below hb6
  have hk6 : Kept (Lb lb g s) w w6 := HK3.out.trans (Kept.of_below hb6)
  have hks : Kept (Lb lb g s) w6 ((w6.setCell ⟨lb, 3, none⟩ (.slice A6 (k + 1) c6)).setCell ⟨lb, 4, none⟩ (.int .i64 ((fin : Int) + (K : Int)))) := ((Kept.refl _ w6).setCell (p := ⟨lb, 3, none⟩) (.inl (.inr rfl)) _).setCell (p := ⟨lb, 4, none⟩) (.inl (.inr rfl)) _
  have hks2 : Kept (fun i => i = lb) w6 ((w6.setCell ⟨lb, 3, none⟩ (.slice A6 (k + 1) c6)).setCell ⟨lb, 4, none⟩ (.int .i64 ((fin : Int) + (K : Int)))) := ((Kept.refl (fun i => i = lb) w6).setCell (p := ⟨lb, 3, none⟩) (.inl rfl) _).setCell (p := ⟨lb, 4, none⟩) (.inl rfl) _
  have hgd := HL.out.good
  refine ⟨by rw [HE.out]; rfl, ?_, hk6.trans hks⟩
  rw [HE.out]
  refine ⟨⟨A6, c6, ?_, HR6.out.1.keep (hks.wide (fun i _ => .inl))⟩, hd6.keep hks2 (fun e => HNG.out (.inl e.symm)) (fun e => HNG.out (.inr e.symm)), ⟨hgd.half, hgd.g0, hgd.g1, ?_, ?_, ?_⟩⟩
  · simp only
    rw [List.length_append, HK.out, List.length_singleton, show ((fin + K : Nat) : Int) = (fin : Int) + (K : Int) by omega]
    exact (ht6.set 3 (.slice A6 (k + 1) c6) rfl).set 4 (.int .i64 ((fin : Int) + (K : Int))) rfl
  · simp only
    rw [HZ.out]
    omega
  · simp only
    rw [List.length_append, HK.out, List.length_singleton]
    omega
  · intro r hr
    simp only at hr
    rcases List.mem_append.1 hr with hr | hr
    · exact HLL.out r hr
    · rw [List.mem_singleton.1 hr, HM.out]
      omega
end Go.Proofs.Ytoocifoglhhnmaa
