/- A statement 'l.records = append(l.records, b)' in a round of a range over a function: its operations in whatever order. -/
import Derived.Test.YtoocifoglhhnmaaLogRange
namespace Go.Proofs.Ytoocifoglhhnmaa
open Go.RowKit Go.Shelf
set_option linter.unusedVariables false

section
variable {F : Fence} {n : Nat} {P : Program} {ops : Array Oper} {Q : Exit → Act → World → Prop} {md : Region.Mode}

theorem ready_false {listed : Array Bool} {i : Nat} (h : i ∈ Region.ready md ops listed) : listed[i]? = some false := by
  unfold Region.ready at h
  have h1 := (List.mem_filter.1 h).2
  simp only [Bool.and_eq_true, Bool.not_eq_true'] at h1
  have h2 := h1.1
  rw [Array.getD_eq_getD_getElem?] at h2
  cases h3 : listed[i]? with
  | none => rw [h3] at h2; simp at h2
  | some b => rw [h3] at h2; simp at h2; rw [h2]

theorem count_set {l : List Bool} {i : Nat} (h : l[i]? = some false) : (l.set i true).count false + 1 = l.count false := by
  induction l generalizing i with
  | nil => simp at h
  | cons b l ih =>
    cases i with
    | zero => simp at h; subst h; simp
    | succ i =>
      simp at h
      have := ih h
      simp [List.count_cons]
      omega

/-- an invariant of all orders -/
theorem wpAnyIn_inv (Inv : Array Bool → Act → World → Prop)
    (hstep : ∀ (listed : Array Bool) (a : Act) (w : World) (i : Nat), Inv listed a w → i ∈ Region.ready md ops listed → wpOpIn F n P ops Q i (fun a' w' => Inv (listed.setIfInBounds i true) a' w') a w)
    (hend : ∀ (listed : Array Bool) (a : Act) (w : World), Inv listed a w → Region.ready md ops listed = [] → Q .normal a w) :
    ∀ (fuel : Nat) (listed : Array Bool) (a : Act) (w : World), Inv listed a w → listed.toList.count false ≤ fuel → wpAnyIn F n P md ops Q fuel listed a w
  | 0, listed, a, w, hi, hc => by
    have h0 : Region.ready md ops listed = [] := by
      cases h : Region.ready md ops listed with
      | nil => rfl
      | cons i r =>
        have h1 := ready_false (md := md) (ops := ops) (listed := listed) (i := i) (by rw [h]; simp)
        have h2 := count_set (l := listed.toList) (i := i) (by simpa using h1)
        omega
    exact ⟨h0, hend listed a w hi h0⟩
  | fuel + 1, listed, a, w, hi, hc => by
    refine ⟨hend listed a w hi, fun i hr => wpOpIn_mono (fun a' w' h => wpAnyIn_inv Inv hstep hend fuel _ a' w' h ?_) (hstep listed a w i hi hr)⟩
    have h1 := ready_false hr
    have h2 := count_set (l := listed.toList) (i := i) (by simpa using h1)
    simp only [Array.toList_setIfInBounds]
    omega

theorem step_val {i : Nat} {o : Oper} {K : Act → World → Prop} {a : Act} {w w' : World} {x : Value} {l : Nat} (ho : ops[i]? = some o) (hg : o.guard = none) (hnd : ∀ c, o.op ≠ .defer c) (hF : ∀ f, F.fn f) (hround : F.round = some l)
    (hrun : (execOp a.eval o).run P w = .ok (.value x) w') (hK : K (a.put o.dst x) w') : wpOpIn F n P ops Q i K a w := by
  refine wpOpIn_step ho fun K' hK' => ?_
  have hw : Region.wanted o (yielded ops a.tmps) = true := by simp [Region.wanted, hg]
  rw [if_pos hw]
  unfold Oper.wpIn
  rw [hround, Oper.semAt_some l a.eval o hnd, hrun]
  exact ⟨fun f _ => hF f, hK' _ _ hK⟩
end

theorem eval_put (a : Act) (k j : Nat) (x : Value) (hk : k < a.tmps.size) : (a.put (some k) x).eval (.tmp j) = if j = k then x else a.eval (.tmp j) := by
  simp only [Act.put, Act.eval]
  by_cases e : j = k
  · subst e; simp [hk]
  · simp [e, Array.getElem?_setIfInBounds_ne (Ne.symm e)]

set_option maxHeartbeats 1000000 in
theorem run_load32 (ev : Operand → Value) (o : Oper) (k : Nat) (ho : o.op = .load 32 (.tmp k)) (b f : Nat) (he : ev (.tmp k) = .pointer (some ⟨b, f, none⟩)) (w : World) (x : Option Addr) (hx : w.cell? ⟨b, f, none⟩ = some (.pointer x)) :
    (execOp ev o).run Try.prog w = .ok (.value (.pointer x)) w := by
  simp only [execOp, ho, he]
  simp [go_sem, hx]

set_option maxHeartbeats 1000000 in
theorem run_load45 (ev : Operand → Value) (o : Oper) (k : Nat) (ho : o.op = .load 45 (.tmp k)) (b f : Nat) (he : ev (.tmp k) = .pointer (some ⟨b, f, none⟩)) (w : World) (A : Option Addr) (m c : Nat) (hx : w.cell? ⟨b, f, none⟩ = some (.slice A m c)) :
    (execOp ev o).run Try.prog w = .ok (.value (.slice A m c)) w := by
  simp only [execOp, ho, he]
  simp [go_sem, hx]

theorem run_nil (ev : Operand → Value) (o : Oper) (k : Nat) (ho : o.op = .nilCheck (.tmp k)) (b f : Nat) (he : ev (.tmp k) = .pointer (some ⟨b, f, none⟩)) (w : World) :
    (execOp ev o).run Try.prog w = .ok (.value (.pointer (some ⟨b, f, none⟩))) w := by
  simp only [execOp, ho, he]
  simp [go_sem]

set_option maxHeartbeats 1000000 in
theorem run_field3 (ev : Operand → Value) (o : Oper) (k : Nat) (ho : o.op = .fieldAddr 67 (.tmp k) 3) (b : Nat) (he : ev (.tmp k) = .pointer (some ⟨b, 0, none⟩)) (w : World) :
    (execOp ev o).run Try.prog w = .ok (.value (.pointer (some ⟨b, 7, none⟩))) w := by
  simp only [execOp, ho, he]
  simp [go_sem]

theorem run_move (ev : Operand → Value) (o : Oper) (k : Nat) (ho : o.op = .move (.tmp k)) (w : World) :
    (execOp ev o).run Try.prog w = .ok (.value (ev (.tmp k))) w := by
  simp only [execOp, ho]
  simp [go_sem]

set_option maxHeartbeats 1000000 in
theorem run_build (ev : Operand → Value) (o : Oper) (k : Nat) (ho : o.op = .buildSlice 45 1 #[(0, .tmp k)]) (A : Option Addr) (m c : Nat) (he : ev (.tmp k) = .slice A m c) (w : World) :
    (execOp ev o).run Try.prog w = .ok (.value (.slice (some ⟨w.heap.size, 0, none⟩) 1 1)) (w.alloc (.cells #[.slice A m c] 38)) := by
  simp only [execOp, ho]
  simp [go_sem, he]

theorem run_app (ev : Operand → Value) (o : Oper) (k j : Nat) (ho : o.op = .call { callee := .builtin .append, args := #[.tmp k, .tmp j], argTypes := #[45, 45] }) (hty : o.type = 45) (x y : Value) (hx : ev (.tmp k) = x) (hy : ev (.tmp j) = y) (w w' : World) (z : Value)
    (hr : (Builtin.append_ #[45, 45] 45 #[x, y]).run Try.prog w = .ok z w') :
    (execOp ev o).run Try.prog w = .ok (.value z) w' := by
  unfold execOp
  simp only [ho, hty, resolve, invoke, builtin, Sem.run_bind, Sem.run_pure, Result.andThen_ok, List.map_toArray, List.map_cons, List.map_nil, hx, hy, hr]

set_option maxHeartbeats 1000000 in
theorem run_store45 (ev : Operand → Value) (o : Oper) (k j : Nat) (ho : o.op = .store 45 (.tmp k) (.tmp j)) (b f : Nat) (he : ev (.tmp k) = .pointer (some ⟨b, f, none⟩)) (A : Option Addr) (m c : Nat) (hx : ev (.tmp j) = .slice A m c) (w : World) (old : Value) (hc : w.cell? ⟨b, f, none⟩ = some old) (hf : w.frozen? ⟨b, f, none⟩ = false) :
    (execOp ev o).run Try.prog w = .ok .skip (w.setCell ⟨b, f, none⟩ (.slice A m c)) := by
  simp only [execOp, ho, he, hx]
  simp [go_sem, hc, hf]

theorem step_skip {F : Fence} {n : Nat} {P : Program} {ops : Array Oper} {Q : Exit → Act → World → Prop} {i : Nat} {o : Oper} {K : Act → World → Prop} {a : Act} {w w' : World} {l : Nat} (ho : ops[i]? = some o) (hg : o.guard = none) (hnd : ∀ c, o.op ≠ .defer c) (hF : ∀ f, F.fn f) (hround : F.round = some l)
    (hrun : (execOp a.eval o).run P w = .ok .skip w') (hK : K (a.put o.dst undef) w') : wpOpIn F n P ops Q i K a w := by
  refine wpOpIn_step ho fun K' hK' => ?_
  have hw : Region.wanted o (yielded ops a.tmps) = true := by simp [Region.wanted, hg]
  rw [if_pos hw]
  unfold Oper.wpIn
  rw [hround, Oper.semAt_some l a.eval o hnd, hrun]
  exact ⟨fun f _ => hF f, hK' _ _ hK⟩

/-- what must have run ahead of each operation -/
def ahead (b0 b1 b2 b3 b4 b5 b6 b7 b8 b9 b10 : Bool) : Nat → Bool
  | 0 => !b7 || b6
  | 1 => true
  | 2 => b1
  | 3 => b2
  | 4 => b3 && !b7
  | 5 => true
  | 6 => b5 && !b7
  | 7 => b4 && b6
  | 8 => b0 && b7
  | 9 => b8
  | 10 => b0 && b1 && b2 && b3 && b4 && b5 && b6 && b7 && b8 && b9
  | _ => false

def allB (f : Bool → Bool) : Bool := f true && f false
theorem allB_spec {f : Bool → Bool} (h : allB f = true) (b : Bool) : f b = true := by
  unfold allB at h
  rw [Bool.and_eq_true] at h
  cases b
  · exact h.2
  · exact h.1
/-- the orders that a region of this form lets come -/
def chkR (ops : Array Oper) : Bool :=
  allB fun b0 => allB fun b1 => allB fun b2 => allB fun b3 => allB fun b4 => allB fun b5 => allB fun b6 => allB fun b7 => allB fun b8 => allB fun b9 => allB fun b10 =>
    ((Region.ready .any ops #[b0, b1, b2, b3, b4, b5, b6, b7, b8, b9, b10]).all fun i => !((!b7 || (b4 && b6)) && (!b9 || b8) && (!b10 || (b0 && b1 && b2 && b3 && b4 && b5 && b6 && b7 && b8 && b9))) || (ahead b0 b1 b2 b3 b4 b5 b6 b7 b8 b9 b10 i && !b10)) && (!(Region.ready .any ops #[b0, b1, b2, b3, b4, b5, b6, b7, b8, b9, b10]).isEmpty || b10)

/-- the values that have come, whatever the order -/
structure Came (pb lb : Nat) (S : Value) (A : Option Addr) (m c : Nat) (sl v' : Value) (W w6 : World) (b0 b1 b2 b3 b4 b5 b6 b7 b8 b9 b10 : Bool) (a : Act) (w : World) : Prop where
  sz : a.tmps.size = 75
  e5 : a.eval (.tmp 5) = .pointer (some ⟨pb, 0, none⟩)
  e8 : a.eval (.tmp 8) = S
  e0 : b0 = true → a.eval (.tmp 52) = .pointer (some ⟨lb, 0, none⟩)
  e1 : b1 = true → a.eval (.tmp 53) = .pointer (some ⟨lb, 0, none⟩)
  e2 : b2 = true → a.eval (.tmp 54) = .pointer (some ⟨lb, 0, none⟩)
  e3 : b3 = true → a.eval (.tmp 55) = .pointer (some ⟨lb, 7, none⟩)
  e4 : b4 = true → a.eval (.tmp 56) = .slice A m c
  e57 : b5 = true → a.eval (.tmp 57) = S
  e6 : b6 = true → a.eval (.tmp 58) = sl
  e7 : b7 = true → a.eval (.tmp 59) = v'
  e60 : b8 = true → a.eval (.tmp 60) = .pointer (some ⟨lb, 0, none⟩)
  e61 : b9 = true → a.eval (.tmp 61) = .pointer (some ⟨lb, 7, none⟩)
  hw : w = if b10 = true then w6.setCell ⟨lb, 7, none⟩ v' else if b7 = true then w6 else if b6 = true then W.alloc (.cells #[S] 38) else W
  h76 : b7 = true → b6 = true

set_option maxHeartbeats 400000 in
theorem row_region {l id : Nat} {Q : Exit → Act → World → Prop} {ops : Array Oper} {a : Act} {W0 W : World} (hW : W = W0.drew) (pb lb : Nat) (SA : Option Addr) (Sm Sc : Nat) (A : Option Addr) (m c : Nat) (A' : Option Addr) (m' c' : Nat) (w6 : World) (hsz : ops.size = 11)
    (q0 : ∃ o : Oper, ops[0]? = some o ∧ o.dst = some 52 ∧ o.op = .load 32 (.tmp 5) ∧ o.guard = none)
    (q1 : ∃ o : Oper, ops[1]? = some o ∧ o.dst = some 53 ∧ o.op = .load 32 (.tmp 5) ∧ o.guard = none)
    (q2 : ∃ o : Oper, ops[2]? = some o ∧ o.dst = some 54 ∧ o.op = .nilCheck (.tmp 53) ∧ o.guard = none)
    (q3 : ∃ o : Oper, ops[3]? = some o ∧ o.dst = some 55 ∧ o.op = .fieldAddr 67 (.tmp 54) 3 ∧ o.guard = none)
    (q4 : ∃ o : Oper, ops[4]? = some o ∧ o.dst = some 56 ∧ o.op = .load 45 (.tmp 55) ∧ o.guard = none)
    (q5 : ∃ o : Oper, ops[5]? = some o ∧ o.dst = some 57 ∧ o.op = .move (.tmp 8) ∧ o.guard = none)
    (q6 : ∃ o : Oper, ops[6]? = some o ∧ o.dst = some 58 ∧ o.op = .buildSlice 45 1 #[(0, .tmp 57)] ∧ o.guard = none)
    (q7 : ∃ o : Oper, ops[7]? = some o ∧ o.dst = some 59 ∧ o.op = .call { callee := .builtin .append, args := #[.tmp 56, .tmp 58], argTypes := #[45, 45] } ∧ o.guard = none ∧ o.type = 45)
    (q8 : ∃ o : Oper, ops[8]? = some o ∧ o.dst = some 60 ∧ o.op = .nilCheck (.tmp 52) ∧ o.guard = none)
    (q9 : ∃ o : Oper, ops[9]? = some o ∧ o.dst = some 61 ∧ o.op = .fieldAddr 67 (.tmp 60) 3 ∧ o.guard = none)
    (q10 : ∃ o : Oper, ops[10]? = some o ∧ o.dst = none ∧ o.op = .store 45 (.tmp 61) (.tmp 59) ∧ o.guard = none)
    (hchk : chkR ops = true)
    (hT : a.tmps.size = 75) (h5 : a.eval (.tmp 5) = .pointer (some ⟨pb, 0, none⟩)) (h8 : a.eval (.tmp 8) = .slice SA Sm Sc)
    (p0 : W.cell? ⟨pb, 0, none⟩ = some (.pointer (some ⟨lb, 0, none⟩))) (p1 : (W.alloc (.cells #[.slice SA Sm Sc] 38)).cell? ⟨pb, 0, none⟩ = some (.pointer (some ⟨lb, 0, none⟩))) (p2 : w6.cell? ⟨pb, 0, none⟩ = some (.pointer (some ⟨lb, 0, none⟩)))
    (v0 : W.cell? ⟨lb, 7, none⟩ = some (.slice A m c)) (v1 : (W.alloc (.cells #[.slice SA Sm Sc] 38)).cell? ⟨lb, 7, none⟩ = some (.slice A m c)) (v2 : w6.cell? ⟨lb, 7, none⟩ = some (.slice A m c)) (f2 : w6.frozen? ⟨lb, 7, none⟩ = false)
    (hrun : (Builtin.append_ #[45, 45] 45 #[.slice A m c, .slice (some ⟨W.heap.size, 0, none⟩) 1 1]).run Try.prog (W.alloc (.cells #[.slice SA Sm Sc] 38)) = .ok (.slice A' m' c') w6)
    (hQ : ∀ a', Q .normal a' (w6.setCell ⟨lb, 7, none⟩ (.slice A' m' c'))) :
    (Code.region id ops true).wpIn (Fence.wide.inRound l) 0 Try.prog Q a W0 := by
  have hrd : ∀ b0 b1 b2 b3 b4 b5 b6 b7 b8 b9 b10 : Bool, ∀ i ∈ Region.ready .any ops #[b0, b1, b2, b3, b4, b5, b6, b7, b8, b9, b10], (b7 = true → b4 = true ∧ b6 = true) → (b9 = true → b8 = true) → (b10 = true → (b0 && b1 && b2 && b3 && b4 && b5 && b6 && b7 && b8 && b9) = true) → ahead b0 b1 b2 b3 b4 b5 b6 b7 b8 b9 b10 i = true ∧ (b10 = true → False) := by
    intro b0 b1 b2 b3 b4 b5 b6 b7 b8 b9 b10 i hi h7 h9 h10
    have h := (allB_spec (allB_spec (allB_spec (allB_spec (allB_spec (allB_spec (allB_spec (allB_spec (allB_spec (allB_spec (allB_spec hchk b0) b1) b2) b3) b4) b5) b6) b7) b8) b9) b10)
    rw [Bool.and_eq_true] at h
    have h1 := List.all_eq_true.1 h.1 i hi
    have e7 : (!b7 || (b4 && b6)) = true := by
      cases b7 with
      | false => rfl
      | true => rw [(h7 rfl).1, (h7 rfl).2]; rfl
    have e10 : (!b10 || (b0 && b1 && b2 && b3 && b4 && b5 && b6 && b7 && b8 && b9)) = true := by
      cases b10 with
      | false => rfl
      | true => rw [h10 rfl]; rfl
    have e9 : (!b9 || b8) = true := by
      cases b9 with
      | false => rfl
      | true => rw [h9 rfl]; rfl
    rw [e7, e9, e10] at h1
    simp only [Bool.and_self, Bool.not_true, Bool.false_or, Bool.and_eq_true, Bool.not_eq_true'] at h1
    exact ⟨h1.1, fun e => by rw [h1.2] at e; cases e⟩
  have hfin : ∀ b0 b1 b2 b3 b4 b5 b6 b7 b8 b9 b10 : Bool, Region.ready .any ops #[b0, b1, b2, b3, b4, b5, b6, b7, b8, b9, b10] = [] → b10 = true := by
    intro b0 b1 b2 b3 b4 b5 b6 b7 b8 b9 b10 hr
    have h := (allB_spec (allB_spec (allB_spec (allB_spec (allB_spec (allB_spec (allB_spec (allB_spec (allB_spec (allB_spec (allB_spec hchk b0) b1) b2) b3) b4) b5) b6) b7) b8) b9) b10)
    rw [Bool.and_eq_true] at h
    have h2 := h.2
    rw [hr] at h2
    simpa using h2
  refine wpIn_region_any (by kernel_rfl) ?_
  have hW' : ({ W0 with drawn := W0.drawn + 1 } : World) = W := hW.symm
  rw [hW', hsz]
  refine wpAnyIn_inv (fun listed a w => ∃ b0 b1 b2 b3 b4 b5 b6 b7 b8 b9 b10 : Bool, listed = #[b0, b1, b2, b3, b4, b5, b6, b7, b8, b9, b10] ∧ (b7 = true → b4 = true ∧ b6 = true) ∧ (b9 = true → b8 = true) ∧ (b10 = true → (b0 && b1 && b2 && b3 && b4 && b5 && b6 && b7 && b8 && b9) = true) ∧ Came pb lb (.slice SA Sm Sc) A m c (.slice (some ⟨W.heap.size, 0, none⟩) 1 1) (.slice A' m' c') W w6 b0 b1 b2 b3 b4 b5 b6 b7 b8 b9 b10 a w) ?_ ?_ 11 (Array.replicate 11 false) a W ?_ (by decide)
  · rintro listed a w i ⟨b0, b1, b2, b3, b4, b5, b6, b7, b8, b9, b10, rfl, g7, g9, g10, H⟩ hi
    obtain ⟨hah, hn10⟩ := hrd b0 b1 b2 b3 b4 b5 b6 b7 b8 b9 b10 i hi g7 g9 g10
    have hb10 : b10 = false := by cases b10 with | false => rfl | true => exact (hn10 rfl).elim
    subst hb10
    have hnl := ready_false hi
    clear hn10 hrd hfin hi
    have hw := H.hw
    have oth : ∀ (k : Nat) (x : Value) (j : Nat), j ≠ k ∧ k < 75 → (a.put (some k) x).eval (.tmp j) = a.eval (.tmp j) := fun k x j h => by rw [eval_put a k j x (by rw [H.sz]; exact h.2), if_neg h.1]
    have same : ∀ (k : Nat) (x : Value), k < 75 → (a.put (some k) x).eval (.tmp k) = x := fun k x h => by rw [eval_put a k k x (by rw [H.sz]; exact h), if_pos rfl]
    have hpw : w.cell? ⟨pb, 0, none⟩ = some (.pointer (some ⟨lb, 0, none⟩)) := by
      rw [hw]
      cases b7 <;> cases b6 <;> simp [p0, p1, p2]
    have hvw : b7 = false → w.cell? ⟨lb, 7, none⟩ = some (.slice A m c) := fun h => by
      rw [hw, h]
      cases b6 <;> simp [v0, v1]
    have hwW : b7 = false → b6 = false → w = W := fun h h' => by rw [hw, h, h']; rfl
    have hwA : b7 = false → b6 = true → w = W.alloc (.cells #[.slice SA Sm Sc] 38) := fun h h' => by rw [hw, h, h']; rfl
    have hw6 : b7 = true → w = w6 := fun h => by rw [hw, h]; rfl
    match i, hah, hnl with
    | 0, hah, hnl =>
      obtain ⟨o, ho, hd, hop, hg⟩ := q0
      simp [ahead] at hah hnl
      refine step_val (l := l) (x := .pointer (some ⟨lb, 0, none⟩)) (w' := w) ho hg (by rw [hop]; exact fun _ => nofun) (fun _ => trivial) rfl (run_load32 a.eval o 5 hop pb 0 H.e5 w _ hpw) ?_
      rw [hd]
      refine ⟨true, b1, b2, b3, b4, b5, b6, b7, b8, b9, false, rfl, g7, g9, nofun, ?_⟩
      exact ⟨by simp [Act.put]; exact H.sz, (oth 52 _ 5 (by omega)).trans H.e5, (oth 52 _ 8 (by omega)).trans H.e8, fun _ => same 52 _ (by omega), fun h => (oth 52 _ 53 (by omega)).trans (H.e1 h), fun h => (oth 52 _ 54 (by omega)).trans (H.e2 h), fun h => (oth 52 _ 55 (by omega)).trans (H.e3 h), fun h => (oth 52 _ 56 (by omega)).trans (H.e4 h), fun h => (oth 52 _ 57 (by omega)).trans (H.e57 h), fun h => (oth 52 _ 58 (by omega)).trans (H.e6 h), fun h => (oth 52 _ 59 (by omega)).trans (H.e7 h), fun h => (oth 52 _ 60 (by omega)).trans (H.e60 h), fun h => (oth 52 _ 61 (by omega)).trans (H.e61 h), hw, H.h76⟩
    | 1, hah, hnl =>
      obtain ⟨o, ho, hd, hop, hg⟩ := q1
      simp [ahead] at hah hnl
      refine step_val (l := l) (x := .pointer (some ⟨lb, 0, none⟩)) (w' := w) ho hg (by rw [hop]; exact fun _ => nofun) (fun _ => trivial) rfl (run_load32 a.eval o 5 hop pb 0 H.e5 w _ hpw) ?_
      rw [hd]
      refine ⟨b0, true, b2, b3, b4, b5, b6, b7, b8, b9, false, rfl, g7, g9, nofun, ?_⟩
      exact ⟨by simp [Act.put]; exact H.sz, (oth 53 _ 5 (by omega)).trans H.e5, (oth 53 _ 8 (by omega)).trans H.e8, fun h => (oth 53 _ 52 (by omega)).trans (H.e0 h), fun _ => same 53 _ (by omega), fun h => (oth 53 _ 54 (by omega)).trans (H.e2 h), fun h => (oth 53 _ 55 (by omega)).trans (H.e3 h), fun h => (oth 53 _ 56 (by omega)).trans (H.e4 h), fun h => (oth 53 _ 57 (by omega)).trans (H.e57 h), fun h => (oth 53 _ 58 (by omega)).trans (H.e6 h), fun h => (oth 53 _ 59 (by omega)).trans (H.e7 h), fun h => (oth 53 _ 60 (by omega)).trans (H.e60 h), fun h => (oth 53 _ 61 (by omega)).trans (H.e61 h), hw, H.h76⟩
    | 2, hah, hnl =>
      obtain ⟨o, ho, hd, hop, hg⟩ := q2
      simp [ahead] at hah hnl
      refine step_val (l := l) (x := .pointer (some ⟨lb, 0, none⟩)) (w' := w) ho hg (by rw [hop]; exact fun _ => nofun) (fun _ => trivial) rfl (run_nil a.eval o 53 hop lb 0 (H.e1 hah) w) ?_
      rw [hd]
      refine ⟨b0, b1, true, b3, b4, b5, b6, b7, b8, b9, false, rfl, g7, g9, nofun, ?_⟩
      exact ⟨by simp [Act.put]; exact H.sz, (oth 54 _ 5 (by omega)).trans H.e5, (oth 54 _ 8 (by omega)).trans H.e8, fun h => (oth 54 _ 52 (by omega)).trans (H.e0 h), fun h => (oth 54 _ 53 (by omega)).trans (H.e1 h), fun _ => same 54 _ (by omega), fun h => (oth 54 _ 55 (by omega)).trans (H.e3 h), fun h => (oth 54 _ 56 (by omega)).trans (H.e4 h), fun h => (oth 54 _ 57 (by omega)).trans (H.e57 h), fun h => (oth 54 _ 58 (by omega)).trans (H.e6 h), fun h => (oth 54 _ 59 (by omega)).trans (H.e7 h), fun h => (oth 54 _ 60 (by omega)).trans (H.e60 h), fun h => (oth 54 _ 61 (by omega)).trans (H.e61 h), hw, H.h76⟩
    | 3, hah, hnl =>
      obtain ⟨o, ho, hd, hop, hg⟩ := q3
      simp [ahead] at hah hnl
      refine step_val (l := l) (x := .pointer (some ⟨lb, 7, none⟩)) (w' := w) ho hg (by rw [hop]; exact fun _ => nofun) (fun _ => trivial) rfl (run_field3 a.eval o 54 hop lb (H.e2 hah) w) ?_
      rw [hd]
      refine ⟨b0, b1, b2, true, b4, b5, b6, b7, b8, b9, false, rfl, g7, g9, nofun, ?_⟩
      exact ⟨by simp [Act.put]; exact H.sz, (oth 55 _ 5 (by omega)).trans H.e5, (oth 55 _ 8 (by omega)).trans H.e8, fun h => (oth 55 _ 52 (by omega)).trans (H.e0 h), fun h => (oth 55 _ 53 (by omega)).trans (H.e1 h), fun h => (oth 55 _ 54 (by omega)).trans (H.e2 h), fun _ => same 55 _ (by omega), fun h => (oth 55 _ 56 (by omega)).trans (H.e4 h), fun h => (oth 55 _ 57 (by omega)).trans (H.e57 h), fun h => (oth 55 _ 58 (by omega)).trans (H.e6 h), fun h => (oth 55 _ 59 (by omega)).trans (H.e7 h), fun h => (oth 55 _ 60 (by omega)).trans (H.e60 h), fun h => (oth 55 _ 61 (by omega)).trans (H.e61 h), hw, H.h76⟩
    | 4, hah, hnl =>
      obtain ⟨o, ho, hd, hop, hg⟩ := q4
      simp [ahead] at hah hnl
      refine step_val (l := l) (x := .slice A m c) (w' := w) ho hg (by rw [hop]; exact fun _ => nofun) (fun _ => trivial) rfl (run_load45 a.eval o 55 hop lb 7 (H.e3 hah.1) w A m c (hvw hah.2)) ?_
      rw [hd]
      refine ⟨b0, b1, b2, b3, true, b5, b6, b7, b8, b9, false, rfl, fun h => ⟨rfl, (g7 h).2⟩, g9, nofun, ?_⟩
      exact ⟨by simp [Act.put]; exact H.sz, (oth 56 _ 5 (by omega)).trans H.e5, (oth 56 _ 8 (by omega)).trans H.e8, fun h => (oth 56 _ 52 (by omega)).trans (H.e0 h), fun h => (oth 56 _ 53 (by omega)).trans (H.e1 h), fun h => (oth 56 _ 54 (by omega)).trans (H.e2 h), fun h => (oth 56 _ 55 (by omega)).trans (H.e3 h), fun _ => same 56 _ (by omega), fun h => (oth 56 _ 57 (by omega)).trans (H.e57 h), fun h => (oth 56 _ 58 (by omega)).trans (H.e6 h), fun h => (oth 56 _ 59 (by omega)).trans (H.e7 h), fun h => (oth 56 _ 60 (by omega)).trans (H.e60 h), fun h => (oth 56 _ 61 (by omega)).trans (H.e61 h), hw, H.h76⟩
    | 5, hah, hnl =>
      obtain ⟨o, ho, hd, hop, hg⟩ := q5
      simp [ahead] at hah hnl
      refine step_val (l := l) (x := .slice SA Sm Sc) (w' := w) ho hg (by rw [hop]; exact fun _ => nofun) (fun _ => trivial) rfl ((by rw [run_move a.eval o 8 hop w, H.e8])) ?_
      rw [hd]
      refine ⟨b0, b1, b2, b3, b4, true, b6, b7, b8, b9, false, rfl, g7, g9, nofun, ?_⟩
      exact ⟨by simp [Act.put]; exact H.sz, (oth 57 _ 5 (by omega)).trans H.e5, (oth 57 _ 8 (by omega)).trans H.e8, fun h => (oth 57 _ 52 (by omega)).trans (H.e0 h), fun h => (oth 57 _ 53 (by omega)).trans (H.e1 h), fun h => (oth 57 _ 54 (by omega)).trans (H.e2 h), fun h => (oth 57 _ 55 (by omega)).trans (H.e3 h), fun h => (oth 57 _ 56 (by omega)).trans (H.e4 h), fun _ => same 57 _ (by omega), fun h => (oth 57 _ 58 (by omega)).trans (H.e6 h), fun h => (oth 57 _ 59 (by omega)).trans (H.e7 h), fun h => (oth 57 _ 60 (by omega)).trans (H.e60 h), fun h => (oth 57 _ 61 (by omega)).trans (H.e61 h), hw, H.h76⟩
    | 6, hah, hnl =>
      obtain ⟨o, ho, hd, hop, hg⟩ := q6
      simp [ahead] at hah hnl
      refine step_val (l := l) (x := .slice (some ⟨W.heap.size, 0, none⟩) 1 1) (w' := (W.alloc (.cells #[.slice SA Sm Sc] 38))) ho hg (by rw [hop]; exact fun _ => nofun) (fun _ => trivial) rfl ((by rw [hwW hah.2 hnl]; exact run_build a.eval o 57 hop SA Sm Sc (H.e57 hah.1) W)) ?_
      rw [hd]
      refine ⟨b0, b1, b2, b3, b4, b5, true, b7, b8, b9, false, rfl, fun h => ⟨(g7 h).1, rfl⟩, g9, nofun, ?_⟩
      exact ⟨by simp [Act.put]; exact H.sz, (oth 58 _ 5 (by omega)).trans H.e5, (oth 58 _ 8 (by omega)).trans H.e8, fun h => (oth 58 _ 52 (by omega)).trans (H.e0 h), fun h => (oth 58 _ 53 (by omega)).trans (H.e1 h), fun h => (oth 58 _ 54 (by omega)).trans (H.e2 h), fun h => (oth 58 _ 55 (by omega)).trans (H.e3 h), fun h => (oth 58 _ 56 (by omega)).trans (H.e4 h), fun h => (oth 58 _ 57 (by omega)).trans (H.e57 h), fun _ => same 58 _ (by omega), fun h => (oth 58 _ 59 (by omega)).trans (H.e7 h), fun h => (oth 58 _ 60 (by omega)).trans (H.e60 h), fun h => (oth 58 _ 61 (by omega)).trans (H.e61 h), by rw [hah.2]; rfl, fun _ => rfl⟩
    | 7, hah, hnl =>
      obtain ⟨o, ho, hd, hop, hg, hty⟩ := q7
      simp [ahead] at hah hnl
      refine step_val (l := l) (x := .slice A' m' c') (w' := w6) ho hg (by rw [hop]; exact fun _ => nofun) (fun _ => trivial) rfl ((by rw [hwA hnl hah.2]; exact run_app a.eval o 56 58 hop hty _ _ (H.e4 hah.1) (H.e6 hah.2) _ _ _ hrun)) ?_
      rw [hd]
      refine ⟨b0, b1, b2, b3, b4, b5, b6, true, b8, b9, false, rfl, fun _ => hah, g9, nofun, ?_⟩
      exact ⟨by simp [Act.put]; exact H.sz, (oth 59 _ 5 (by omega)).trans H.e5, (oth 59 _ 8 (by omega)).trans H.e8, fun h => (oth 59 _ 52 (by omega)).trans (H.e0 h), fun h => (oth 59 _ 53 (by omega)).trans (H.e1 h), fun h => (oth 59 _ 54 (by omega)).trans (H.e2 h), fun h => (oth 59 _ 55 (by omega)).trans (H.e3 h), fun h => (oth 59 _ 56 (by omega)).trans (H.e4 h), fun h => (oth 59 _ 57 (by omega)).trans (H.e57 h), fun h => (oth 59 _ 58 (by omega)).trans (H.e6 h), fun _ => same 59 _ (by omega), fun h => (oth 59 _ 60 (by omega)).trans (H.e60 h), fun h => (oth 59 _ 61 (by omega)).trans (H.e61 h), rfl, fun _ => hah.2⟩
    | 8, hah, hnl =>
      obtain ⟨o, ho, hd, hop, hg⟩ := q8
      simp [ahead] at hah hnl
      refine step_val (l := l) (x := .pointer (some ⟨lb, 0, none⟩)) (w' := w) ho hg (by rw [hop]; exact fun _ => nofun) (fun _ => trivial) rfl (run_nil a.eval o 52 hop lb 0 (H.e0 hah.1) w) ?_
      rw [hd]
      refine ⟨b0, b1, b2, b3, b4, b5, b6, b7, true, b9, false, rfl, g7, fun _ => rfl, nofun, ?_⟩
      exact ⟨by simp [Act.put]; exact H.sz, (oth 60 _ 5 (by omega)).trans H.e5, (oth 60 _ 8 (by omega)).trans H.e8, fun h => (oth 60 _ 52 (by omega)).trans (H.e0 h), fun h => (oth 60 _ 53 (by omega)).trans (H.e1 h), fun h => (oth 60 _ 54 (by omega)).trans (H.e2 h), fun h => (oth 60 _ 55 (by omega)).trans (H.e3 h), fun h => (oth 60 _ 56 (by omega)).trans (H.e4 h), fun h => (oth 60 _ 57 (by omega)).trans (H.e57 h), fun h => (oth 60 _ 58 (by omega)).trans (H.e6 h), fun h => (oth 60 _ 59 (by omega)).trans (H.e7 h), fun _ => same 60 _ (by omega), fun h => (oth 60 _ 61 (by omega)).trans (H.e61 h), hw, H.h76⟩
    | 9, hah, hnl =>
      obtain ⟨o, ho, hd, hop, hg⟩ := q9
      simp [ahead] at hah hnl
      refine step_val (l := l) (x := .pointer (some ⟨lb, 7, none⟩)) (w' := w) ho hg (by rw [hop]; exact fun _ => nofun) (fun _ => trivial) rfl (run_field3 a.eval o 60 hop lb (H.e60 hah) w) ?_
      rw [hd]
      refine ⟨b0, b1, b2, b3, b4, b5, b6, b7, b8, true, false, rfl, g7, fun _ => hah, nofun, ?_⟩
      exact ⟨by simp [Act.put]; exact H.sz, (oth 61 _ 5 (by omega)).trans H.e5, (oth 61 _ 8 (by omega)).trans H.e8, fun h => (oth 61 _ 52 (by omega)).trans (H.e0 h), fun h => (oth 61 _ 53 (by omega)).trans (H.e1 h), fun h => (oth 61 _ 54 (by omega)).trans (H.e2 h), fun h => (oth 61 _ 55 (by omega)).trans (H.e3 h), fun h => (oth 61 _ 56 (by omega)).trans (H.e4 h), fun h => (oth 61 _ 57 (by omega)).trans (H.e57 h), fun h => (oth 61 _ 58 (by omega)).trans (H.e6 h), fun h => (oth 61 _ 59 (by omega)).trans (H.e7 h), fun h => (oth 61 _ 60 (by omega)).trans (H.e60 h), fun _ => same 61 _ (by omega), hw, H.h76⟩
    | 10, hah, hnl =>
      obtain ⟨o, ho, hd, hop, hg⟩ := q10
      have hah0 : (b0 && b1 && b2 && b3 && b4 && b5 && b6 && b7 && b8 && b9) = true := hah
      have h9 : b9 = true := by simp only [Bool.and_eq_true] at hah0; exact hah0.2
      have h7 : b7 = true := by simp only [Bool.and_eq_true] at hah0; exact hah0.1.1.2
      refine step_skip (l := l) ho hg (by rw [hop]; exact fun _ => nofun) (fun _ => trivial) rfl (w' := w6.setCell ⟨lb, 7, none⟩ (.slice A' m' c')) (by rw [hw6 h7]; exact run_store45 a.eval o 61 59 hop lb 7 (H.e61 h9) A' m' c' (H.e7 h7) w6 _ v2 f2) ?_
      rw [hd]
      refine ⟨b0, b1, b2, b3, b4, b5, b6, b7, b8, b9, true, rfl, g7, g9, fun _ => hah0, ?_⟩
      exact ⟨H.sz, H.e5, H.e8, H.e0, H.e1, H.e2, H.e3, H.e4, H.e57, H.e6, H.e7, H.e60, H.e61, rfl, H.h76⟩
    | k + 11, hah, hnl => simp [ahead] at hah
  · rintro listed a w ⟨b0, b1, b2, b3, b4, b5, b6, b7, b8, b9, b10, rfl, g7, g9, g10, H⟩ hr
    have := hfin b0 b1 b2 b3 b4 b5 b6 b7 b8 b9 b10 hr
    have hw := H.hw
    rw [if_pos this] at hw
    rw [hw]
    exact hQ a
  · exact ⟨false, false, false, false, false, false, false, false, false, false, false, rfl, nofun, nofun, nofun, ⟨hT, h5, h8, nofun, nofun, nofun, nofun, nofun, nofun, nofun, nofun, nofun, nofun, rfl, nofun⟩⟩

end Go.Proofs.Ytoocifoglhhnmaa
