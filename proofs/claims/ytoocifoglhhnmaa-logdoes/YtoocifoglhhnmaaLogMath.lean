/- Records that last, on a disk: what the chapter's words mean as plain mathematics, nothing of the program. -/
import Derived.Test.YtoocifoglhhnmaaDiskMath
import Derived.Test.YtoocifoglhhnmaaCrcMath
namespace Go.Proofs.Ytoocifoglhhnmaa.Lg
open Dk (Bs D)
set_option linter.unusedVariables false

def nats (l : Bs) : List Nat := l.map (·.toNat)
def zeros (k : Nat) : Bs := List.replicate k 0
/-- the k lowest bytes of a number, the highest first -/
def be : Nat → Nat → Bs
  | 0, _ => []
  | k + 1, n => be k (n / 256) ++ [UInt8.ofNat n]
def num (l : Bs) : Nat := l.foldl (fun n c => 256 * n + c.toNat) 0

theorem zeros_len (k : Nat) : (zeros k).length = k := by simp [zeros]
theorem be_len (k n : Nat) : (be k n).length = k := by
  induction k generalizing n with
  | zero => rfl
  | succ k ih => simp [be, ih]
theorem num_snoc (l : Bs) (c : UInt8) : num (l ++ [c]) = 256 * num l + c.toNat := by simp [num]
theorem num_nil : num [] = 0 := rfl
theorem num_lt_from (l : Bs) (a : Nat) : l.foldl (fun n c => 256 * n + c.toNat) a < (a + 1) * 256 ^ l.length := by
  induction l generalizing a with
  | nil => simp
  | cons c l ih =>
    rw [List.foldl_cons, List.length_cons, Nat.pow_succ]
    have h1 := ih (256 * a + c.toNat)
    have h2 := c.toNat_lt
    have h3 : (256 * a + c.toNat + 1) * 256 ^ l.length ≤ (256 * (a + 1)) * 256 ^ l.length := Nat.mul_le_mul_right _ (by omega)
    have h4 : 256 * (a + 1) * 256 ^ l.length = (a + 1) * (256 ^ l.length * 256) := by rw [Nat.mul_comm 256 (a + 1), Nat.mul_assoc, Nat.mul_comm 256]
    omega
theorem num_lt (l : Bs) : num l < 256 ^ l.length := by have := num_lt_from l 0; rw [Nat.zero_add, Nat.one_mul] at this; exact this
theorem num_be (k n : Nat) (h : n < 256 ^ k) : num (be k n) = n := by
  induction k generalizing n with
  | zero => simp at h; subst h; rfl
  | succ k ih =>
    rw [be, num_snoc, ih _ (by rw [Nat.pow_succ] at h; omega)]
    simp
    omega
theorem num_take (l : Bs) (k : Nat) (c : UInt8) (h : l[k]? = some c) : num (l.take (k + 1)) = 256 * num (l.take k) + c.toNat := by
  have : l.take (k + 1) = l.take k ++ [c] := by rw [List.take_add_one, h]; rfl
  rw [this, num_snoc]

def crc (l : Bs) : Nat := Crc.more 0 (nats l)
theorem nats_lt (l : Bs) : ∀ x ∈ nats l, x < 256 := by
  intro x hx
  obtain ⟨b, _, rfl⟩ := List.mem_map.1 hx
  exact b.toNat_lt
theorem nats_append (a b : Bs) : nats (a ++ b) = nats a ++ nats b := List.map_append
theorem crc_lt (l : Bs) : crc l < 4294967296 := Crc.more_lt _ _
theorem crc_more (a b : Bs) : Crc.more (crc a) (nats b) = crc (a ++ b) := by
  unfold crc; rw [nats_append]; exact Crc.more_parts 0 _ _ (by omega) (nats_lt a)

def head (g : Nat) : Bs := be 4 g ++ be 4 (crc (be 4 g)) ++ zeros 23 ++ [165]
/-- how many sectors a record of m bytes has -/
def secs (m : Nat) : Nat := 1 + (m - 17 + 31) / 32
def top (m g p : Nat) : Bs := be 2 m ++ be 4 g ++ be 4 p
def mid (b : Bs) (g p : Nat) : Bs := top b.length g p ++ be 4 (crc (top b.length g p ++ b)) ++ b.take 17
/-- a record's sectors -/
def recd (b : Bs) (g p : Nat) : Bs := mid b g p ++ zeros (17 - b.length) ++ [165] ++ (b.drop 17 ++ zeros (32 * (secs b.length - 1) - (b.length - 17)))
/-- a record's own bytes, of its sectors' -/
def own (l : Bs) (m : Nat) : Bs := (l.drop 14).take (min m 17) ++ (l.drop 32).take (m - 17)

theorem head_len (g : Nat) : (head g).length = 32 := by simp [head, be_len, zeros_len]
theorem top_len (m g p : Nat) : (top m g p).length = 10 := by simp [top, be_len]
theorem mid_len (b : Bs) (g p : Nat) : (mid b g p).length = 14 + min 17 b.length := by simp [mid, be_len, top_len, List.length_take]; omega
theorem secs_pos (m : Nat) : 1 ≤ secs m := by unfold secs; omega
theorem secs_le (m : Nat) (h : m ≤ 200) : secs m ≤ 7 := by unfold secs; omega
theorem secs_room (m : Nat) : m - 17 ≤ 32 * (secs m - 1) := by unfold secs; omega
theorem recd_len (b : Bs) (g p : Nat) : (recd b g p).length = 32 * secs b.length := by
  have h1 := secs_room b.length
  have h2 := secs_pos b.length
  simp only [recd, List.length_append, mid_len, zeros_len, List.length_singleton, List.length_drop]
  omega

/-- bytes that are filled from the left -/
theorem fill_at (P c : Bs) (o k : Nat) (ho : P.length = o) (h : c.length ≤ k) : Go.splice (P ++ zeros k) o c = P ++ c ++ zeros (k - c.length) := by
  subst ho
  unfold Go.splice zeros
  rw [List.take_left, List.drop_append, List.drop_eq_nil_of_le (by omega), List.nil_append, List.drop_replicate, Nat.add_sub_cancel_left, List.append_assoc]
theorem set_at (P : Bs) (k i : Nat) (x : UInt8) (h : P.length ≤ i) (hi : i < P.length + k) : (P ++ zeros k).set i x = P ++ zeros (i - P.length) ++ [x] ++ zeros (P.length + k - i - 1) := by
  apply List.ext_getElem?
  intro j
  unfold zeros
  rw [List.getElem?_set]
  by_cases e : i = j
  · subst e
    rw [if_pos rfl, if_pos (by simp; omega), List.append_assoc, List.append_assoc, List.getElem?_append_right h, List.getElem?_append_right (by simp), List.getElem?_append_left (by simp)]
    simp
  · rw [if_neg e]
    by_cases h1 : j < P.length
    · rw [List.getElem?_append_left h1, List.append_assoc, List.append_assoc, List.getElem?_append_left h1]
    · rw [List.getElem?_append_right (by omega), List.append_assoc, List.append_assoc, List.getElem?_append_right (by omega)]
      by_cases h2 : j < i
      · rw [List.getElem?_append_left (by simp; omega), List.getElem?_replicate, List.getElem?_replicate, if_pos (by omega), if_pos (by omega)]
      · rw [List.getElem?_append_right (by simp; omega), List.getElem?_append_right (by simp; omega), List.getElem?_replicate, List.getElem?_replicate]
        simp only [List.length_replicate, List.length_singleton]
        by_cases h3 : j - P.length < k
        · rw [if_pos h3, if_pos (by omega)]
        · rw [if_neg h3, if_neg (by omega)]

theorem head_made (g : Nat) : (Go.splice (Go.splice (zeros 32) 0 (be 4 g)) 4 (be 4 (crc (be 4 g)))).set 31 165 = head g := by
  have e1 := fill_at [] (be 4 g) 0 32 rfl (by rw [be_len]; omega)
  rw [List.nil_append, List.nil_append, be_len] at e1
  rw [e1, fill_at (be 4 g) (be 4 (crc (be 4 g))) 4 28 (be_len _ _) (by rw [be_len]; omega), be_len, set_at _ _ _ _ (by simp [be_len]) (by simp [be_len])]
  simp only [List.length_append, be_len]
  simp [head, zeros]

theorem recd_made (b : Bs) (g p : Nat) :
    Go.splice ((Go.splice (Go.splice (Go.splice (Go.splice (Go.splice (zeros (32 * secs b.length)) 0 (be 2 b.length)) 2 (be 4 g)) 6 (be 4 p)) 10 (be 4 (crc (top b.length g p ++ b)))) 14 (b.take 17)).set 31 165) 32 (b.drop 17) = recd b g p := by
  have h1 := secs_room b.length
  have h2 := secs_pos b.length
  have e1 := fill_at [] (be 2 b.length) 0 (32 * secs b.length) rfl (by rw [be_len]; omega)
  rw [List.nil_append, List.nil_append, be_len] at e1
  rw [e1, fill_at (be 2 b.length) (be 4 g) 2 _ (be_len _ _) (by rw [be_len]; omega), be_len,
    fill_at (be 2 b.length ++ be 4 g) (be 4 p) 6 _ (by simp [be_len]) (by rw [be_len]; omega), be_len]
  rw [show be 2 b.length ++ be 4 g ++ be 4 p = top b.length g p from rfl]
  rw [fill_at (top b.length g p) _ 10 _ (top_len _ _ _) (by rw [be_len]; omega), be_len,
    fill_at (top b.length g p ++ be 4 (crc (top b.length g p ++ b))) (b.take 17) 14 _ (by simp [be_len, top_len]) (by rw [List.length_take]; omega)]
  rw [show top b.length g p ++ be 4 (crc (top b.length g p ++ b)) ++ b.take 17 = mid b g p from rfl]
  have hm := mid_len b g p
  rw [set_at _ _ _ _ (by omega) (by rw [List.length_take]; omega)]
  have hl : (mid b g p ++ zeros (31 - (mid b g p).length) ++ [165]).length = 32 := by simp [zeros_len, hm]; omega
  rw [fill_at _ (b.drop 17) 32 _ hl (by rw [List.length_drop, List.length_take]; omega)]
  have q1 : 31 - (mid b g p).length = 17 - b.length := by omega
  have q2 : (mid b g p).length + (32 * secs b.length - 2 - 4 - 4 - 4 - (b.take 17).length) - 31 - 1 - (b.drop 17).length = 32 * (secs b.length - 1) - (b.length - 17) := by rw [List.length_drop, List.length_take]; omega
  rw [q1, q2]
  unfold recd
  rw [← List.append_assoc (mid b g p ++ zeros (17 - b.length) ++ [165]) (b.drop 17)]

theorem recd_own (b : Bs) (g p : Nat) : own (recd b g p) b.length = b := by
  have hm := mid_len b g p
  have e1 : (recd b g p).drop 14 = b.take 17 ++ zeros (17 - b.length) ++ [165] ++ (b.drop 17 ++ zeros (32 * (secs b.length - 1) - (b.length - 17))) := by
    unfold recd mid
    rw [List.append_assoc (top b.length g p ++ be 4 (crc (top b.length g p ++ b)))]
    simp only [List.append_assoc]
    rw [← List.append_assoc (top b.length g p), List.drop_append, List.drop_eq_nil_of_le (by simp [be_len, top_len]), List.nil_append]
    simp [be_len, top_len]
  have e2 : (recd b g p).drop 32 = b.drop 17 ++ zeros (32 * (secs b.length - 1) - (b.length - 17)) := by
    have h0 : (mid b g p ++ zeros (17 - b.length) ++ [165]).length = 32 := by simp [zeros_len, hm]; omega
    unfold recd
    rw [List.drop_append, List.drop_eq_nil_of_le (by rw [h0]; omega), List.nil_append, h0, Nat.sub_self, List.drop_zero]
  unfold own
  rw [e1, e2]
  by_cases h : b.length ≤ 17
  · rw [show b.length - 17 = 0 by omega, List.take_zero, List.append_nil, List.take_of_length_le (l := b) h, Nat.min_eq_left h]
    simp only [List.append_assoc]
    exact List.take_left
  · rw [Nat.min_eq_right (by omega)]
    have h17 : (b.take 17).length = 17 := by rw [List.length_take]; omega
    have e3 : (b.take 17 ++ zeros (17 - b.length) ++ [165] ++ (b.drop 17 ++ zeros (32 * (secs b.length - 1) - (b.length - 17)))).take 17 = b.take 17 := by
      simp only [List.append_assoc]
      rw [List.take_append, h17, Nat.sub_self, List.take_zero, List.append_nil, List.take_of_length_le (by omega)]
    rw [e3, List.take_append, List.length_drop, Nat.sub_self, List.take_zero, List.append_nil, List.take_of_length_le (l := b.drop 17) (by rw [List.length_drop]; omega)]
    exact List.take_append_drop 17 b

theorem own_len (l : Bs) (m : Nat) (h : l.length = 32 * secs m) : (own l m).length = m := by
  have h1 := secs_room m
  have h2 := secs_pos m
  unfold own
  rw [List.length_append, List.length_take, List.length_take, List.length_drop, List.length_drop]
  omega

theorem own_made (l : Bs) (m : Nat) (h : l.length = 32 * secs m) :
    Go.splice (Go.splice (zeros m) 0 ((l.drop 14).take (min m 17))) (min m 17) ((l.drop 32).take (m - 17)) = own l m := by
  have h1 := secs_room m
  have h2 := secs_pos m
  have l1 : ((l.drop 14).take (min m 17)).length = min m 17 := by rw [List.length_take, List.length_drop]; omega
  have l2 : ((l.drop 32).take (m - 17)).length = m - 17 := by rw [List.length_take, List.length_drop]; omega
  have e1 := fill_at [] ((l.drop 14).take (min m 17)) 0 m rfl (by omega)
  rw [List.nil_append, List.nil_append] at e1
  rw [e1, fill_at _ _ (min m 17) _ l1 (by omega), l1, l2, show m - min m 17 - (m - 17) = 0 by omega]
  simp [own, zeros]

/-- the bytes of k sectors -/
def cut (b : Bs) (a k : Nat) : Bs := (b.drop (32 * a)).take (32 * k)
theorem cut_one (b : Bs) (a : Nat) : cut b a 1 = Dk.sec b a := rfl
theorem cut_succ (b : Bs) (a k : Nat) : cut b a (k + 1) = cut b a k ++ Dk.sec b (a + k) := by
  unfold cut Dk.sec
  rw [show 32 * (k + 1) = 32 * k + 32 by omega, List.take_add, List.drop_drop]
  congr 3
  omega
theorem cut_len {b : Bs} {n a k : Nat} (hb : b.length = 32 * n) (h : a + k ≤ n) : (cut b a k).length = 32 * k := by
  unfold cut; rw [List.length_take, List.length_drop]; omega

/-- the record that stands at a sector of the half that begins at s, if there is one -/
def recAt (b : Bs) (s size g : Nat) (a p : Nat) : Option Bs :=
  if size ≤ a then none
  else if 200 < num ((Dk.sec b (s + a)).take 2) then none
  else if size < a + secs (num ((Dk.sec b (s + a)).take 2)) then none
  else if cut b (s + a) (secs (num ((Dk.sec b (s + a)).take 2))) = recd (own (cut b (s + a) (secs (num ((Dk.sec b (s + a)).take 2)))) (num ((Dk.sec b (s + a)).take 2))) g p
    then some (own (cut b (s + a) (secs (num ((Dk.sec b (s + a)).take 2)))) (num ((Dk.sec b (s + a)).take 2)))
  else none

theorem recAt_some {b : Bs} {n s size g a p : Nat} {r : Bs} (hb : b.length = 32 * n) (hs : s + size ≤ n) (h : recAt b s size g a p = some r) : r.length ≤ 200 ∧ a + secs r.length ≤ size := by
  unfold recAt at h
  split at h
  · cases h
  split at h
  · cases h
  split at h
  · cases h
  split at h
  · rename_i h1 h2 h3 h4
    have e := Option.some.inj h
    have hl := own_len (cut b (s + a) (secs (num ((Dk.sec b (s + a)).take 2)))) (num ((Dk.sec b (s + a)).take 2)) (cut_len hb (by omega))
    rw [e] at hl
    rw [hl]
    omega
  · cases h

/-- the records of a half, from a sector and a place on, and its end -/
def scan (b : Bs) (s size g : Nat) : Nat → Nat → Nat → List Bs × Nat
  | 0, a, _ => ([], a)
  | f + 1, a, p => match recAt b s size g a p with
    | none => ([], a)
    | some r => (r :: (scan b s size g f (a + secs r.length) (p + 1)).1, (scan b s size g f (a + secs r.length) (p + 1)).2)

theorem scan_end {b : Bs} {n s size g : Nat} (hb : b.length = 32 * n) (hs : s + size ≤ n) (f a p : Nat) (ha : a ≤ size) : (scan b s size g f a p).2 ≤ size ∧ a + (scan b s size g f a p).1.length ≤ (scan b s size g f a p).2 ∧ ∀ r ∈ (scan b s size g f a p).1, r.length ≤ 200 := by
  induction f generalizing a p with
  | zero => simp [scan]; omega
  | succ f ih =>
    unfold scan
    cases h : recAt b s size g a p with
    | none => simp; omega
    | some r =>
      obtain ⟨h1, h2⟩ := recAt_some hb hs h
      have := secs_pos r.length
      have := ih (a + secs r.length) (p + 1) h2
      simp only [List.length_cons, List.mem_cons]
      refine ⟨by omega, by omega, ?_⟩
      rintro x (rfl | hx)
      · exact h1
      · exact this.2.2 x hx

def genOf (b : Bs) (s : Nat) : Nat :=
  if num ((Dk.sec b s).take 4) < 1 then 0 else if 2147483647 < num ((Dk.sec b s).take 4) then 0 else if Dk.sec b s = head (num ((Dk.sec b s).take 4)) then num ((Dk.sec b s).take 4) else 0
theorem genOf_le (b : Bs) (s : Nat) : genOf b s ≤ 2147483647 := by
  unfold genOf; split
  · omega
  split
  · omega
  split <;> omega
def IsNew (b : Bs) (s size : Nat) : Prop := (∀ a, 1 ≤ a → a < size → Dk.sec b (s + a) = zeros 32) ∧ (Dk.sec b s).getD 31 0 = 0

/-- a write, its answer -/
def wr (n : Nat) (d : D) (k : Nat) (l : Bs) : D × Int := (Dk.wstate n d k l, Dk.wcode n d k l)
def wipeS (n s to : Nat) : Nat → D → D × Int
  | 0, d => (d, 0)
  | m + 1, d => if m < to then (d, 0) else if Dk.sec d.b (s + m) = zeros 32 then wipeS n s to m d
    else if (wr n d (s + m) []).2 = 0 then wipeS n s to m (wr n d (s + m) []).1 else wr n d (s + m) []
def layS (n k : Nat) (l : Bs) : Nat → Nat → D → D × Int
  | 0, _, d => wr n d k (Dk.sec l 0)
  | r + 1, i, d => if (wr n d (k + i) (Dk.sec l i)).2 = 0 then layS n k l r (i + 1) (wr n d (k + i) (Dk.sec l i)).1 else wr n d (k + i) (Dk.sec l i)
def fillR (n s g : Nat) : List Bs → Nat → Nat → D → D × Int
  | [], _, _, d => wr n d s (head g)
  | r :: rs, a, p, d => if (layS n (s + a) (recd r g p) (secs r.length - 1) 1 d).2 = 0 then fillR n s g rs (a + secs r.length) (p + 1) (layS n (s + a) (recd r g p) (secs r.length - 1) 1 d).1
    else layS n (s + a) (recd r g p) (secs r.length - 1) 1 d
def fillS (n s size g : Nat) (rs : List Bs) (d : D) : D × Int := if (wipeS n s 0 size d).2 = 0 then fillR n s g rs 1 0 (wipeS n s 0 size d).1 else wipeS n s 0 size d

/-- a log, without its disk -/
structure L where
  half : Nat
  gen : Nat
  recs : List Bs
  fin : Nat
  bro : Bool

structure LGood (n : Nat) (x : L) : Prop where
  half : x.half ≤ 1
  g0 : 1 ≤ x.gen
  g1 : x.gen ≤ 2147483647
  fin : x.fin ≤ n / 2
  cnt : 1 + x.recs.length ≤ x.fin
  len : ∀ r ∈ x.recs, r.length ≤ 200

def start (n half : Nat) : Nat := half * (n / 2)
theorem start_le {n half : Nat} (h : half ≤ 1) : start n half + n / 2 ≤ n := by
  unfold start
  have : half = 0 ∨ half = 1 := by omega
  rcases this with rfl | rfl <;> omega

/-- what choose leaves: the disk, the answer, the generation, the half -/
def chooseS (n : Nat) (d : D) : D × Int × Nat × Nat :=
  if 0 < max (genOf d.b 0) (genOf d.b (n / 2)) then (d, 0, max (genOf d.b 0) (genOf d.b (n / 2)), if genOf d.b 0 < genOf d.b (n / 2) then 1 else 0)
  else (wr n d 0 (head 1) |>.1, (wr n d 0 (head 1)).2, 1, 0)
def scanL (n : Nat) (d : D) (half g : Nat) : List Bs × Nat := scan d.b (start n half) (n / 2) g (n / 2) 1 0

def sumSecs : List Bs → Nat
  | [] => 0
  | r :: rs => secs r.length + sumSecs rs
theorem sumSecs_len (rs : List Bs) : rs.length ≤ sumSecs rs := by
  induction rs with
  | nil => simp [sumSecs]
  | cons r rs ih => have := secs_pos r.length; simp [sumSecs]; omega

/-! what each leaves of the disk -/
theorem wr_good {n : Nat} {d : D} (h : Dk.Good n d) (k : Nat) (l : Bs) : Dk.Good n (wr n d k l).1 := Dk.wstate_good h _ _
theorem wr_writes {n : Nat} (d : D) (k : Nat) (l : Bs) : (wr n d k l).1.writes ≤ d.writes + 1 := (Dk.wstate_writes d k l).2
theorem wipeS_writes (n s to m : Nat) (d : D) : (wipeS n s to m d).1.writes ≤ d.writes + m := by
  induction m generalizing d with
  | zero => simp [wipeS]
  | succ m ih =>
    unfold wipeS
    have h1 := wr_writes (n := n) d (s + m) []
    have h2 := ih d
    have h3 := ih (wr n d (s + m) []).1
    split
    · simp only; omega
    split
    · omega
    split <;> omega
theorem layS_writes (n k : Nat) (l : Bs) (r i : Nat) (d : D) : (layS n k l r i d).1.writes ≤ d.writes + (r + 1) := by
  induction r generalizing i d with
  | zero => unfold layS; have h1 := wr_writes (n := n) d k (Dk.sec l 0); omega
  | succ r ih =>
    unfold layS
    have h1 := wr_writes (n := n) d (k + i) (Dk.sec l i)
    have h3 := ih (i + 1) (wr n d (k + i) (Dk.sec l i)).1
    split <;> omega
theorem fillR_writes (n s g : Nat) (rs : List Bs) (a p : Nat) (d : D) : (fillR n s g rs a p d).1.writes ≤ d.writes + (sumSecs rs + 1) := by
  induction rs generalizing a p d with
  | nil => unfold fillR sumSecs; have h1 := wr_writes (n := n) d s (head g); omega
  | cons r rs ih =>
    unfold fillR sumSecs
    have h0 := secs_pos r.length
    have h1 := layS_writes n (s + a) (recd r g p) (secs r.length - 1) 1 d
    have h3 := ih (a + secs r.length) (p + 1) (layS n (s + a) (recd r g p) (secs r.length - 1) 1 d).1
    split <;> omega
theorem fillS_writes (n s size g : Nat) (rs : List Bs) (d : D) : (fillS n s size g rs d).1.writes ≤ d.writes + (size + sumSecs rs + 1) := by
  unfold fillS
  have h1 := wipeS_writes n s 0 size d
  have h2 := fillR_writes n s g rs 1 0 (wipeS n s 0 size d).1
  split <;> omega

end Go.Proofs.Ytoocifoglhhnmaa.Lg
