/- Texts joined: The document's answer for routes: World, Truck. Two rows of one's own, of whatever records, that grow in turn. -/
import Derived.Test.YtgjmlnpfkmpfgaaGreatLoadRs
import Derived.Test.YtgjmlnpfkmpfgaaGreatAreaRs
import Derived.Test.YtgjmlnpfkmpfgaaGreatRouteE
import Derived.Maps.AppendAt
section
/-! The document's answer for routes: World, Truck. -/
namespace Go.Proofs.YtgjmlnpfkmpfgaaGreat
open Go.RowKit
set_option linter.unusedVariables false
set_option maxRecDepth 100000

set_option maxHeartbeats 1000000 in
theorem dworld_b (x : Wd) (w : World) (r : Int) (hr : Rt.worldE x.N x.D x.T x.os x.ts = r) (h : WAt w x) :
    Calls Tryz.prog 50 #[.agg #[.int .i64 x.N, .slice x.dA x.dm x.dc, .slice x.tA x.tm x.tc, .slice x.A x.m x.c, .slice x.B x.k x.d]] w fun e w' => e = .returned (.int .i64 r) ∧ Hid (Below w.heap.size w w') := by
  have HB0 : Hid (Below w.heap.size w (w.alloc (.cells #[.int .i64 x.N, .slice x.dA x.dm x.dc, .slice x.tA x.tm x.tc, .slice x.A x.m x.c, .slice x.B x.k x.d] 28))) := below_alloc _ _
  have HX := Lib.hid (WX.new h)
  clear h
  rcases Rt.check_01 x.N x.D x.T with ⟨h1, _⟩ | ⟨h1, _⟩
  · rw [Rt.world_rest h1] at hr
    have HC := Lib.hid (rcheck_any x.N x.dA x.dm x.dc x.D x.tA x.tm x.tc x.T _ HX.out.at_.ar)
    rw [h1] at HC
    have HC2 : Hid (∀ W, WX W w.heap.size x → Below w.heap.size w W → Calls Tryz.prog 79 #[.agg #[.int .i64 x.N, .slice x.dA x.dm x.dc, .slice x.tA x.tm x.tc, .slice x.A x.m x.c, .slice x.B x.k x.d]] W fun e w' => e = .returned (.int .i64 r) ∧ Hid (Below w.heap.size w w')) := fun W hx hb =>
      (rworld_val x.N _ _ x.A x.m x.c x.os x.B x.k x.d x.ts W r hr hx.at_.ml hx.at_.m2 hx.at_.kl hx.at_.k2 hx.at_.os hx.at_.ts).mono fun _ _ ⟨e1, e2⟩ => ⟨e1, below_next hb e2.out⟩
    clear hr h1
    go_enter Tryz.func50, Tryz.ntmps50
    go_wp2_with fail
    with_reducible refine HC.out.mono ?_
    rintro e w1 ⟨rfl, hb1⟩
    have HX1 := Lib.hid (HX.out.below hb1)
    have HBN := Lib.hid (below_next HB0.out hb1)
    clear hb1
    have x0 := HX1.out.c0
    have x1 := HX1.out.c1
    have x2 := HX1.out.c2
    have x3 := HX1.out.c3
    have x4 := HX1.out.c4
    go_wp2_with fail
    with_reducible refine (HC2.out w1 HX1.out HBN.out).mono ?_
    rintro e w2 ⟨rfl, hb2⟩
    clear x0 x1 x2 x3 x4
    go_wp2
    go_ret
    exact ⟨rfl, hb2.out⟩
  · rw [Rt.world_bad h1] at hr
    have HR := Lib.hid hr
    have HC := Lib.hid (rcheck_any x.N x.dA x.dm x.dc x.D x.tA x.tm x.tc x.T _ HX.out.at_.ar)
    rw [h1] at HC
    clear hr h1
    go_enter Tryz.func50, Tryz.ntmps50
    go_wp2_with fail
    with_reducible refine HC.out.mono ?_
    rintro e w1 ⟨rfl, hb1⟩
    have HBN := Lib.hid (below_next HB0.out hb1)
    clear hb1
    go_wp2
    go_ret
    exact ⟨by rw [← HR.out]; rfl, HBN.out⟩

set_option maxHeartbeats 2000000 in
theorem dtruck_b (x : Wd) (id : Int) (w : World) (r : Int) (hr : Ld.findI (x.ts.map Ld.T.id) id = r) (h : WAt w x) :
    Calls Tryz.prog 80 #[.agg #[.int .i64 x.N, .slice x.dA x.dm x.dc, .slice x.tA x.tm x.tc, .slice x.A x.m x.c, .slice x.B x.k x.d], .int .i64 id] w fun e w' => e = .returned (.int .i64 r) ∧ Hid (Below w.heap.size w w') := by
  have HB0 : Hid (Below w.heap.size w (w.alloc (.cells #[.int .i64 x.N, .slice x.dA x.dm x.dc, .slice x.tA x.tm x.tc, .slice x.A x.m x.c, .slice x.B x.k x.d] 28))) := below_alloc _ _
  have HX := Lib.hid (WX.new h)
  have hk := h.k2
  have HK := Lib.hid h.kl
  have HY : Hid (∀ k : Nat, x.k ≤ k → (∀ (i : Nat), i < k → (x.ts.map Ld.T.id)[i]? ≠ some id) → r = -1) := fun k hk h => by rw [← hr]; exact Ld.find_none fun j hj => h j (by rw [List.length_map, HK.out] at hj; omega)
  have HN : Hid (∀ (k : Nat), (x.ts.map Ld.T.id)[k]? = some id → (∀ (i : Nat), i < k → (x.ts.map Ld.T.id)[i]? ≠ some id) → r = (k : Int)) := fun k h1 h2 => by rw [← hr]; exact Ld.find_at h1 h2
  clear hr h
  go_enter Tryz.func80, Tryz.ntmps80
  go_wp2_with fail
  generalize w.alloc (.cells #[.int .i64 x.N, .slice x.dA x.dm x.dc, .slice x.tA x.tm x.tc, .slice x.A x.m x.c, .slice x.B x.k x.d] 28) = V at *
  generalize hb : w.heap.size = b at HX ⊢
  clear hb
  go_loopg [4, 5] x.k (fun gk s4 s5 W => ∃ (k : Nat), k + gk = x.k ∧ s4 = .int .i64 0 ∧ s5 = .int .i64 (k : Int) ∧ V = W ∧ Hid (∀ (i : Nat), i < k → (x.ts.map Ld.T.id)[i]? ≠ some id))
  case atStart => exact ⟨0, by omega, rfl, rfl, rfl, fun i hi => by omega⟩
  case round =>
    obtain ⟨k, hkg, rfl, rfl, rfl, HK2⟩ := hrel
    have x4 := HX.out.c4
    by_cases hlt : k < x.k
    · obtain ⟨gk, rfl⟩ : ∃ j, gk = j + 1 := ⟨gk - 1, by omega⟩
      obtain ⟨s, hs⟩ := mlist_at x.ts k (by rw [HK.out]; exact hlt)
      obtain ⟨ad, hB, hc⟩ := HX.out.at_.ts.at_ hs
      have c0 := hc.c0
      have hid : (x.ts.map Ld.T.id)[k]? = some s.id := by rw [List.getElem?_map, hs]; rfl
      rw [hB] at x4
      clear hc hB
      have i1 : (k : Int) < (x.k : Int) := by omega
      by_cases h1 : s.id = id
      · have HR := Lib.hid (HN.out k (by rw [hid, h1]) HK2.out)
        have d1 : (s.id == id) = true := beq_iff_eq.2 h1
        clear hs hid h1
        go_wp2
        go_ret
        exact ⟨by rw [HR.out]; rfl, HB0.out⟩
      · have d1 : (s.id == id) = false := beq_eq_false_iff_ne.2 h1
        have HK3 : Hid (∀ (i : Nat), i < k + 1 → (x.ts.map Ld.T.id)[i]? ≠ some id) := fun i hi => by
          by_cases h : i < k
          · exact HK2.out i h
          · obtain rfl : i = k := by omega
            rw [hid]
            exact fun e => h1 (Option.some.inj e)
        clear hs hid h1
        go_wp2
        go_roundg gk
        case measure => omega
        case rel => exact ⟨k + 1, by omega, rfl, by first | rfl | go_num, rfl, HK3.out⟩
    · have HR := Lib.hid (HY.out k (by omega) HK2.out)
      have hk : k = x.k := by omega
      subst hk
      go_wp2
      go_ret
      exact ⟨by rw [HR.out]; rfl, HB0.out⟩
end Go.Proofs.YtgjmlnpfkmpfgaaGreat
end

section
/-! Two rows of one's own, of whatever records, that grow in turn. -/
namespace Go.Proofs.YtgjmlnpfkmpfgaaGreat
open Go.RowKit
set_option linter.unusedVariables false
set_option maxRecDepth 100000

theorem OwnR.at_blocks {α : Type} {f : α → List Int} {c : Nat} {T : TypeId} {W W' : World} {base : Nat} {A : Option Addr} {n cp : Nat} {l : List α} (h : OwnR f c T W base (.slice A n cp) l) (hb : ∀ ad, A = some ad → ad.block < W.heap.size → W'.heap[ad.block]? = W.heap[ad.block]?) : OwnR f c T W' base (.slice A n cp) l := by
  obtain ⟨h1, h2⟩ := h
  refine ⟨h1, ?_⟩
  rcases h2 with h2 | ⟨g, cap, cur, hv, hg, hh, r⟩
  · exact .inl h2
  · injection hv with e1 e2 e3
    exact .inr ⟨g, cap, cur, by rw [e1, e2, e3], hg, (hb _ e1 (Array.getElem?_eq_some_iff.1 hh).1).trans hh, r⟩
theorem OwnR.place {α : Type} {f : α → List Int} {c : Nat} {T : TypeId} {W : World} {base : Nat} {A : Option Addr} {n cp : Nat} {l : List α} (h : OwnR f c T W base (.slice A n cp) l) : l.length = n ∧ n ≤ cp ∧ IntsAt W A (l.flatMap f) ∧ ∀ ad, A = some ad → base ≤ ad.block ∧ ad.block < W.heap.size := by
  obtain ⟨A', cp', e, h1, _, h2, h3⟩ := h.row
  injection e with e1 e2 e3
  subst e1 e2 e3
  exact ⟨rfl, h1, h2, h3⟩
theorem OwnR.start {α : Type} (f : α → List Int) (c : Nat) (T : TypeId) (W : World) (base : Nat) (h : base ≤ W.heap.size) : OwnR f c T (W.alloc (.cells #[] T)) base (.slice (some ⟨W.heap.size, 0, .none⟩) 0 0) [] :=
  ⟨by simp, .inr ⟨W.heap.size, 0, #[], rfl, h, heap_alloc_new W _, Nat.le_refl _, by decide, by simp, by simp⟩⟩

/-- two lists, each in a row of its own -/
structure TwoH {α β : Type} (f : α → List Int) (c : Nat) (T : TypeId) (f2 : β → List Int) (c2 : Nat) (T2 : TypeId) (w : World) (A : Option Addr) (n ca : Nat) (la : List α) (B : Option Addr) (m cb : Nat) (lb : List β) (W : World) : Prop where
  bel : Below w.heap.size w W
  oa : OwnR f c T W w.heap.size (.slice A n ca) la
  ob : OwnR f2 c2 T2 W w.heap.size (.slice B m cb) lb
  ap : ∀ x y, A = some x → B = some y → x.block ≠ y.block
section
variable {α β : Type} {f : α → List Int} {c : Nat} {T : TypeId} {f2 : β → List Int} {c2 : Nat} {T2 : TypeId}
theorem TwoH.swap {w W : World} {A B : Option Addr} {n ca m cb : Nat} {la : List α} {lb : List β} (h : TwoH f c T f2 c2 T2 w A n ca la B m cb lb W) : TwoH f2 c2 T2 f c T w B m cb lb A n ca la W :=
  ⟨h.bel, h.ob, h.oa, fun x y e1 e2 => (h.ap y x e2 e1).symm⟩
theorem TwoH.below {w W W' : World} {A B : Option Addr} {n ca m cb : Nat} {la : List α} {lb : List β} (h : TwoH f c T f2 c2 T2 w A n ca la B m cb lb W) (hb : Below W.heap.size W W') : TwoH f c T f2 c2 T2 w A n ca la B m cb lb W' :=
  ⟨below_next h.bel hb, h.oa.at_blocks fun ad _ hlt => hb.block _ hlt, h.ob.at_blocks fun ad _ hlt => hb.block _ hlt, h.ap⟩
theorem TwoH.start (f : α → List Int) (c : Nat) (T : TypeId) (f2 : β → List Int) (c2 : Nat) (T2 : TypeId) (w : World) : TwoH f c T f2 c2 T2 w (some ⟨w.heap.size, 0, none⟩) 0 0 [] (some ⟨w.heap.size + 1, 0, none⟩) 0 0 [] ((w.alloc (.cells #[] T)).alloc (.cells #[] T2)) := by
  have hsz : (w.alloc (.cells #[] T)).heap.size = w.heap.size + 1 := by simp
  refine ⟨below_more (below_alloc _ _) _, (OwnR.start f c T w w.heap.size (Nat.le_refl _)).at_blocks fun ad e hlt => heap_alloc_old _ _ hlt, ?_, ?_⟩
  · have := OwnR.start f2 c2 T2 (w.alloc (.cells #[] T)) w.heap.size (by omega)
    rw [hsz] at this
    exact this
  · intro x y e1 e2
    obtain rfl := Option.some.inj e1
    obtain rfl := Option.some.inj e2
    show w.heap.size ≠ w.heap.size + 1
    omega
/-- what putting one more behind the first list leaves -/
def PutH (f : α → List Int) (c : Nat) (T : TypeId) (f2 : β → List Int) (c2 : Nat) (T2 : TypeId) (w : World) (n : Nat) (la : List α) (B : Option Addr) (m cb : Nat) (lb : List β) (v' : Value) (W' : World) : Prop := ∃ A' c', v' = .slice A' n c' ∧ Hid (TwoH f c T f2 c2 T2 w A' n c' la B m cb lb W')
theorem TwoH.put {w W : World} {A B : Option Addr} {n ca m cb : Nat} {la : List α} {lb : List β} (h : TwoH f c T f2 c2 T2 w A n ca la B m cb lb W) (hc : 0 < c) (hf : ∀ x, (f x).length = c) (S : TypeId) (z : Value) (bytes : Nat) (hby : bytes ≤ 64) (hS : Tryz.prog.underlying S = some (.slice T)) (hi : (Tryz.prog.info? T).map (fun i => (i.zero, i.size, i.bytes)) = some (some z, c, bytes)) (hz : z.cells.size = c)
    (x : α) (cs : Array Value) (hcs : cs = ((f x).map (Value.int .i64)).toArray) (la' : List α) (n' : Nat) (hl : la ++ [x] = la') (hn : n + 1 = n') (hs : n ≤ 1000) :
    ∃ v' w', (Builtin.append_ #[S, S] S #[.slice A n ca, .slice (some ⟨W.heap.size, 0, none⟩) 1 1]).run Tryz.prog (W.alloc (.cells cs T)) = .ok v' w' ∧ PutH f c T f2 c2 T2 w n' la' B m cb lb v' w' := by
  subst hl hn
  obtain ⟨i0, hi0, hz0, hz1, hz2⟩ := info_parts4 hi
  have hbx : Box (W.alloc (.cells cs T)) W.heap.size cs T := Box.new _ _ _
  have hna := h.oa.place.1
  have hoa : OwnR f c T (W.alloc (.cells cs T)) w.heap.size (.slice A n ca) la := h.oa.at_blocks fun ad e hlt => heap_alloc_old _ _ hlt
  have hbw := h.bel.size
  obtain ⟨v', w', h1, h2, h3, _, h5⟩ := run_append_own_at (P := Tryz.prog) (W.alloc (.cells cs T)) w.heap.size S S T i0 _ c bytes hS hi0 hz0 hz1 hz2 hz hc (.slice A n ca) la.length ((la.flatMap f).map (Value.int .i64)) hoa ⟨W.heap.size, 0, none⟩ 1 1 ((f x).map (Value.int .i64)) (by rw [List.length_map, hf, Nat.one_mul])
    (fun j u hu => by
      rw [Addr.add_mid, Nat.zero_add]
      exact hbx.cell j u (by rw [hcs]; simpa using hu)) (by intro y hy; obtain ⟨z, _, rfl⟩ := List.mem_map.1 hy; rfl) (by unfold maxLen; omega)
    (Nat.le_trans (Nat.mul_le_mul (show la.length + 1 ≤ 1001 by omega) hby) (by decide)) (Nat.le_trans hbw (below_alloc W _).size)
  have ho : OwnR f c T w' w.heap.size v' (la ++ [x]) := by
    unfold OwnR
    rw [List.length_append, List.flatMap_append, List.map_append]
    simpa using h2
  obtain ⟨A', c', e, hlc, _⟩ := ho.row
  rw [List.length_append, hna] at e
  subst e
  have hblk : ∀ k, k < W.heap.size → (∀ x, A = some x → x.block ≠ k) → w'.heap[k]? = W.heap[k]? := fun k hk hx => by
    rw [h3.block k (Nat.lt_of_lt_of_le hk (below_alloc W _).size) (fun e => by
      cases A with
      | none => cases e
      | some ad => exact hx ad rfl (Option.some.inj e).symm)]
    exact heap_alloc_old _ _ hk
  refine ⟨_, w', h1, A', c', rfl, ?_, ho, h.ob.at_blocks fun ad e hlt => hblk _ hlt fun x hx => h.ap x ad hx e, ?_⟩
  · have hbl : Below w.heap.size W w' := ⟨h3.os, h3.tape, h3.output, Nat.le_trans (below_alloc W _).size h3.size, fun k hk => hblk k (Nat.lt_of_lt_of_le hk hbw) fun x hx => by have := (h.oa.place.2.2.2 x hx).1; omega⟩
    exact h.bel.trans hbl
  · intro p q e1 e2
    have hy := h.ob.place.2.2.2 q e2
    rcases h5 with h5 | h5
    · cases A with
      | none => rw [e1] at h5; cases h5
      | some ad =>
        rw [e1] at h5
        have : p.block = ad.block := Option.some.inj h5
        rw [this]
        exact h.ap ad q rfl e2
    · rw [e1] at h5
      have : p.block = (W.alloc (.cells cs T)).heap.size := Option.some.inj h5
      have := (below_alloc W (.cells cs T)).size
      omega
end

def one (z : Int) : List Int := [z]
theorem flat_one (l : List Int) : l.flatMap one = l := by
  induction l with
  | nil => rfl
  | cons x r ih => rw [List.flatMap_cons, ih]; rfl
theorem int_info2 : (Tryz.prog.info? 3).map (fun i => (i.zero, i.size, i.bytes)) = some (some (.int .i64 0), 1, 8) := by kernel_rfl

/-- the document's lists while it reads a route: orders, and their nodes -/
def TwoR (w : World) (A : Option Addr) (n ca : Nat) (lo : List Ld.O) (B : Option Addr) (m cb : Nat) (ln : List Int) (W : World) : Prop := TwoH Ld.O.ints 8 52 one 1 3 w A n ca lo B m cb ln W
theorem TwoR.start (w : World) : TwoR w (some ⟨w.heap.size, 0, none⟩) 0 0 [] (some ⟨w.heap.size + 1, 0, none⟩) 0 0 [] ((w.alloc (.cells #[] 52)).alloc (.cells #[] 3)) := TwoH.start _ _ _ _ _ _ w
theorem TwoR.below {w W W' : World} {A B : Option Addr} {n ca m cb : Nat} {lo : List Ld.O} {ln : List Int} (h : TwoR w A n ca lo B m cb ln W) (hb : Below W.heap.size W W') : TwoR w A n ca lo B m cb ln W' := TwoH.below h hb
theorem TwoR.orders {w W : World} {A B : Option Addr} {n ca m cb : Nat} {lo : List Ld.O} {ln : List Int} (h : TwoR w A n ca lo B m cb ln W) : lo.length = n ∧ OrdersAt W A lo ∧ ln.length = m ∧ IntsAt W B ln := by
  have h1 := h.oa.place
  have h2 := h.ob.place
  rw [flat_one] at h2
  exact ⟨h1.1, h1.2.2.1, h2.1, h2.2.2.1⟩
/-- what one order more leaves, and one node more -/
def PutO (w : World) (n : Nat) (lo : List Ld.O) (B : Option Addr) (m cb : Nat) (ln : List Int) (v' : Value) (W' : World) : Prop := ∃ A' c', v' = .slice A' n c' ∧ Hid (TwoR w A' n c' lo B m cb ln W')
theorem TwoR.order {w W : World} {A B : Option Addr} {n ca m cb : Nat} {lo : List Ld.O} {ln : List Int} (h : TwoR w A n ca lo B m cb ln W) (a0 a1 a2 a3 a4 a5 a6 a7 : Int) (lo' : List Ld.O) (n' : Nat) (hl : lo ++ [⟨a0, a1, a2, a3, a4, a5, a6, a7⟩] = lo') (hn : n + 1 = n') (hs : n ≤ 1000) :
    ∃ v' w', (Builtin.append_ #[25, 25] 25 #[.slice A n ca, .slice (some ⟨W.heap.size, 0, none⟩) 1 1]).run Tryz.prog (W.alloc (.cells #[.int .i64 a0, .int .i64 a1, .int .i64 a2, .int .i64 a3, .int .i64 a4, .int .i64 a5, .int .i64 a6, .int .i64 a7] 52)) = .ok v' w' ∧ PutO w n' lo' B m cb ln v' w' :=
  TwoH.put h (by omega) oints_len 25 _ 64 (by omega) Tryz.underlying25 order_info rfl ⟨a0, a1, a2, a3, a4, a5, a6, a7⟩ _ rfl lo' n' hl hn hs
def PutI (w : World) (A : Option Addr) (n ca : Nat) (lo : List Ld.O) (m : Nat) (ln : List Int) (v' : Value) (W' : World) : Prop := ∃ B' c', v' = .slice B' m c' ∧ Hid (TwoR w A n ca lo B' m c' ln W')
theorem TwoR.node {w W : World} {A B : Option Addr} {n ca m cb : Nat} {lo : List Ld.O} {ln : List Int} (h : TwoR w A n ca lo B m cb ln W) (z : Int) (ln' : List Int) (m' : Nat) (hl : ln ++ [z] = ln') (hn : m + 1 = m') (hs : m ≤ 1000) :
    ∃ v' w', (Builtin.append_ #[30, 30] 30 #[.slice B m cb, .slice (some ⟨W.heap.size, 0, none⟩) 1 1]).run Tryz.prog (W.alloc (.cells #[.int .i64 z] 3)) = .ok v' w' ∧ PutI w A n ca lo m' ln' v' w' := by
  obtain ⟨v', w', h1, B', c', h2, h3⟩ := TwoH.put (TwoH.swap h) (by omega) (fun _ => rfl) 30 _ 8 (by omega) Tryz.underlying30 int_info2 rfl z _ rfl ln' m' hl hn hs
  exact ⟨v', w', h1, B', c', h2, TwoH.swap h3.out⟩
end Go.Proofs.YtgjmlnpfkmpfgaaGreat
end
