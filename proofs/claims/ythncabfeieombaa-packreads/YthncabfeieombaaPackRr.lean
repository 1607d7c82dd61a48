/- Contract: the document's answer reads values. -/
import Derived.Test.YthncabfeieombaaPackRd1
import Derived.Test.YthncabfeieombaaPackRd2
namespace Go.Proofs.Ythncabfeieombaa
open Go.RowKit

set_option maxHeartbeats 2000000 in
set_option maxRecDepth 100000 in
theorem rread_any (s : ByteArray) (A : Option Addr) (n c : Nat) (l : Pk.Bs) (w : World) (hs : s.size ≤ maxLen) (hn : l.length = n) (hnc : n ≤ c) (hc : c ≤ maxLen) (hb : BytesIn w w.heap.size A l) :
    Calls Try.prog 16 #[.string s, .slice A n c] w fun e w' => RAllPost (Pk.rres (bs s) l) w e w' := by
  have HBY := Lib.hid hb
  have HN := Lib.hid hn
  have HS := Lib.hid hs
  have hn63 : n ≤ 9223372036854775807 := by have := Nat.le_trans hnc hc; unfold maxLen at this; omega
  have hc63 : c ≤ 9223372036854775807 := by unfold maxLen at hc; omega
  clear hb hs hc
  have HP := Lib.hid (fun w => letters_any s w HS.out)
  cases hf : Pk.fine (bs s) with
  | false =>
    have HW : Hid (Pk.rres (bs s) l = (1, [])) := by unfold Hid Pk.rres; rw [if_pos hf]
    rw [hf] at HP
    clear hf hn
    generalize Pk.rres (bs s) l = X at *
    go_enter Try.func16, Try.ntmps16
    go_wp2_with (go_at_call 21; refine (HP.out _).mono ?_; rintro e w' ⟨rfl, rfl⟩)
    go_ret2
    rw [HW.out]
    exact ⟨_, rfl, World.ownsRow_nil _ _ _ _, Below.refl _ _⟩
  | true =>
    rw [hf] at HP
    obtain ⟨hL0, hL⟩ := letsS_len hf
    by_cases hbig : 20000 < n
    · have HW : Hid (Pk.rres (bs s) l = (4, [])) := by unfold Hid Pk.rres; rw [if_neg (by rw [hf]; decide), if_pos (by rw [hn]; exact hbig)]
      have d1 : decide ((20000 : Int) < (n : Int)) = true := decide_eq_true (by omega)
      clear hf hn hbig
      generalize Pk.rres (bs s) l = X at *
      go_enter Try.func16, Try.ntmps16
      go_wp2_with (go_at_call 21; refine (HP.out _).mono ?_; rintro e w' ⟨rfl, rfl⟩)
      go_ret2
      rw [HW.out]
      exact ⟨_, rfl, World.ownsRow_nil _ _ _ _, Below.refl _ _⟩
    · have HX : Hid (Pk.readV (bs (letsS s)) (Pk.often (bs s)) (n + 1) [] l = Pk.rres (bs s) l) := by unfold Hid Pk.rres; rw [if_neg (by rw [hf]; decide), if_neg (by rw [hn]; exact hbig), bs_letsS, hn]
      cases ho : Pk.often (bs s) with
      | true => rw [ho] at HX HP; exact rread_again s A n c l w _ HX HN hnc hc63 HBY hL0 hbig HP
      | false => rw [ho] at HX HP; exact rread_once s A n c l w _ HX HN hnc hc63 HBY hL0 hbig HP

end Go.Proofs.Ythncabfeieombaa
