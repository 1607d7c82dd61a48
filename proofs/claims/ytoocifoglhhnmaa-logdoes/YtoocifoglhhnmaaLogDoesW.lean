/- LogDoes' walk. -/
import Derived.Test.YtoocifoglhhnmaaLogDoesT
import Derived.WalkKit
import Derived.Deep.DeepCutAuto
import Derived.Deep.CutBlock
namespace Go.Proofs.Ytoocifoglhhnmaa
open Go.RowKit
set_option linter.unusedVariables false

/-- the program has opened: what the document's Open does now -/
def MidO (w W : World) (g s g' s' n : Nat) (d : Dk.D) (u : Value) (c : Int) : Prop :=
  Calls Try.prog 11 #[.pointer (some ⟨g', 0, none⟩)] W fun r w' => ∃ (v : Value) (d' : Dk.D), r = .returned (.tuple #[v, .int .i64 c]) ∧ d'.writes ≤ d.writes + 1 + n ∧ Hid (St w w' g s g' s' n d' u v)
theorem open_st {w W : World} {g s g' s' n : Nat} {d : Dk.D} (h : Pair w W g s g' s' n d d) (hw : d.writes ≤ 800000) :
    Calls Try.prog 10 #[.pointer (some ⟨g, 0, none⟩)] W fun r w' => ∃ (u : Value) (c : Int), r = .returned (.tuple #[u, .int .i64 c]) ∧ Hid (MidO w w' g s g' s' n d u c) := by
  by_cases hn4 : 4 ≤ n
  · obtain ⟨q, hq⟩ : ∃ q, openQ n d = q := ⟨_, rfl⟩
    have hww := openQ_writes n d
    rw [hq] at hww
    refine (pair_open1 h hn4 hw q hq).mono fun r w' hp => ?_
    rcases hp with ⟨e0, lb, K, v, e1, hm⟩ | ⟨e0, e1, hp⟩
    · refine ⟨_, _, e1, (mid_open2 hm hn4 hw q hq e0).mono fun r w'' hr => ?_⟩
      obtain ⟨lr, F, e2, hl⟩ := hr
      exact ⟨_, q.1, e2, hww, hl.pair, .inl ⟨F, K, v, lb, lr, q.2.2, rfl, rfl, hn4, hl⟩⟩
    · refine ⟨_, _, e1, (pair_open2 hp hn4 hw q hq e0).mono fun r w'' hr => ?_⟩
      exact ⟨_, q.1, hr.1, hww, hr.2, .inr ⟨rfl, rfl⟩⟩
  · refine (open_small W g s n d h.run.at_ (by omega)).mono fun r w' hr => ?_
    obtain ⟨e1, e2⟩ := hr
    subst e2
    refine ⟨_, _, e1, (ropen_small g' s' n d W h.rd (by omega)).mono fun r w'' hr => ?_⟩
    obtain ⟨e1, e2⟩ := hr
    subst e2
    exact ⟨_, d, e1, by omega, h, .inr ⟨rfl, rfl⟩⟩

theorem St.both {w W W1 W2 : World} {g s g' s' n : Nat} {d d' : Dk.D} {u v : Value} (h : St w W g s g' s' n d u v) (h1 : DiskAt W1 g s n d') (k1 : Kept (Two g s) W W1) (h2 : RDiskAt W2 g' s' n d') (k2 : Kept (Two g' s') W1 W2) : St w W2 g s g' s' n d' u v := by
  obtain ⟨hp, hl⟩ := h
  refine ⟨(hp.turn1 h1 k1).turn2 h2 k2, ?_⟩
  rcases hl with ⟨F, K, r, lb, lr, x, e1, e2, e3, h3⟩ | hl
  · exact .inl ⟨F, K, r, lb, lr, x, e1, e2, e3, (h3.turn1 h1 k1).turn2 h2 k2⟩
  · exact .inr hl

def lowByte5 (c : Int) : UInt8 := UInt8.ofNat (c % 256).toNat
theorem lowByte5_toNat (c : Int) : ((lowByte5 c).toNat : Int) = c % 256 := by
  unfold lowByte5
  rw [← byte_of]
  omega
theorem tstate_writes (n : Nat) (d : Dk.D) (k : Int) (y : UInt8) : (Dk.tstate n d k y).writes = d.writes := by
  unfold Dk.tstate
  split <;> rfl

set_option maxHeartbeats 4000000 in
set_option maxRecDepth 100000 in
theorem does_main (n : Nat) (a1 : Option Addr) (len cap : Nat) (l : List Ox) (w : World) (h0 : 2 ≤ n) (h1 : n ≤ 64) (hl : l.length = len) (hlc : len ≤ cap) (hcm : cap ≤ maxLen) (hv : OpsIn w.heap.size w a1 l) :
    Calls Try.prog 3 #[.int .i64 n, .slice a1 len cap] w fun e w' => e = .returned (.bool true) ∧ Below w.heap.size w w' := by
  have HV := Lib.hid hv
  have HL := Lib.hid hl
  have HLA := Lib.hid (fun W => large_any w.heap.size a1 len cap l W hl (by omega))
  clear hv hl
  have dn : decide ((64 : Int) < (n : Int)) = false := decide_eq_false (by omega)
  go_enter Try.func3, Try.ntmps3
  go_wp2_with fail
  refine (awake_any w).mono ?_
  rintro e w1 ⟨rfl, hb1⟩
  have HB1 := Lib.hid hb1
  clear hb1
  go_wp2_with fail
  refine (HLA.out w1 (HV.out.keep (Kept.of_below HB1.out))).mono ?_
  rintro e w' ⟨b, rfl, rfl, h40⟩
  clear HLA
  cases b with
  | true =>
    clear h40
    go_wp2
    go_ret
    exact ⟨rfl, HB1.out⟩
  | false =>
    have h40 := h40 rfl
    go_wp2_with fail
    refine (run_new n w w1 HB1.out (by omega) (by omega)).mono ?_
    rintro e w2 ⟨g, s, rfl, hr2, _⟩
    have HR2 := Lib.hid hr2
    clear hr2 HB1
    go_wp2_with fail
    refine (rnew_ok n w2 (by omega) (by omega)).mono ?_
    rintro e w3 ⟨rfl, hr3, hb3⟩
    have hp3 : ∃ g' s', w2.heap.size + 1 = g' ∧ w2.heap.size = s' ∧ Hid (Pair w w3 g s g' s' n (Dk.fresh n) (Dk.fresh n)) := by
      have h1 := HR2.out.at_.ltg
      have h2 := HR2.out.at_.lts
      have h3 := HR2.out.bel.size
      exact ⟨_, _, rfl, rfl, HR2.out.below hb3, hr3, by omega, by omega, fun i a b => by rcases a with a | a <;> rcases b with b | b <;> omega⟩
    obtain ⟨g', s', hg', hs', HP3⟩ := hp3
    rw [hg']
    clear hr3 hb3 HR2 hg' hs'
    go_wp2_with fail
    refine (open_st HP3.out (by rw [show (Dk.fresh n).writes = 0 from rfl]; omega)).mono ?_
    rintro e w4 ⟨u, c, rfl, HM4⟩
    go_wp2_with fail
    refine HM4.out.mono ?_
    rintro e w5 ⟨v, d5, rfl, hw5, HS5⟩
    rw [show (Dk.fresh n).writes = 0 from rfl] at hw5
    clear HP3 HM4
    go_wp2_with fail
    go_loopg [9, 10, 11, 12, 13] len (fun gk s9 s10 s11 s12 s13 W => ∃ (k : Nat) (d : Dk.D) (c : Int), k + gk = len ∧ s10 = .int .i64 c ∧ s12 = .int .i64 c ∧ s13 = .int .i64 k ∧ d.writes ≤ 65 + 200 * k ∧ Hid (St w W g s g' s' n d s9 s11))
    case atStart => exact ⟨0, d5, c, by omega, rfl, rfl, rfl, by omega, HS5.out⟩
    case round =>
      clear HS5 hw5
      obtain ⟨k, d, c, hkg, rfl, rfl, rfl, hwk, HS⟩ := hrel
      have hcc : (c == c) = true := beq_self_eq_true c
      have hcn : (c != c) = false := by simp
      by_cases hlt : k < len
      · obtain ⟨gk, rfl⟩ : ∃ i, gk = i + 1 := ⟨gk - 1, by omega⟩
        obtain ⟨y, hy⟩ := some_at l k (by rw [HL.out]; exact hlt)
        have HOP := Lib.hid (HV.out.keep (Kept.of_below HS.out.1.run.bel))
        obtain ⟨ad, rfl, _, x0, x1, x2, x3⟩ := OpsIn.at_ HOP.out hy
        have HOK := Lib.hid ((HOP.out.2 y (List.mem_of_getElem? hy)).keep ((Kept.refl (Mine w.heap.size) wr).alloc (.cells #[.int .i64 y.o, .int .i64 y.a, .int .i64 y.c, .slice y.A y.m y.cap] 40)))
        have HS0 := Lib.hid (HS.out.below (below_alloc wr (.cells #[.int .i64 y.o, .int .i64 y.a, .int .i64 y.c, .slice y.A y.m y.cap] 40)))
        have HBX : Hid (OBox (wr.alloc (.cells #[.int .i64 y.o, .int .i64 y.a, .int .i64 y.c, .slice y.A y.m y.cap] 40)) wr.heap.size y) := heap_alloc_new wr _
        have HXB : Hid (∀ i, Two g s i ∨ Two g' s' i → i ≠ wr.heap.size) := fun i hi => by
          have h1 := HS.out.1.run.at_.ltg
          have h2 := HS.out.1.run.at_.lts
          have h3 := HS.out.1.rd.ltg
          have h4 := HS.out.1.rd.lts
          rcases hi with (x | x) | (x | x) <;> omega
        have HSX : Hid ((∃ (F K : Nat → Prop) (r : Value) (lb lr : Nat) (x : Lg.L), u9 = .pointer (some ⟨lb, 0, none⟩) ∧ u11 = .pointer (some ⟨lr, 0, none⟩) ∧ 4 ≤ n ∧ Logs w (wr.alloc (.cells #[.int .i64 y.o, .int .i64 y.a, .int .i64 y.c, .slice y.A y.m y.cap] 40)) F K r lb lr g s g' s' n x d x d ∧ ∀ i, F i → i ≠ wr.heap.size) ∨ (u9 = .pointer none ∧ u11 = .pointer none)) := by
          rcases HS.out.2 with ⟨F, K, r, lb, lr, x, e1, e2, e3, h3⟩ | h3
          · exact .inl ⟨F, K, r, lb, lr, x, e1, e2, e3, h3.below (below_alloc wr _), fun i hi e => by have := h3.held.flt i hi; omega⟩
          · exact .inr h3
        clear hy HOP HS
        go_upto_block 2 with fail
        generalize wr.alloc (.cells #[.int .i64 y.o, .int .i64 y.a, .int .i64 y.c, .slice y.A y.m y.cap] 40) = W0 at *
        generalize wr.heap.size = xb at *
        clear x0 x1 x2 x3
        have z0 := HBX.out.c0
        have z1 := HBX.out.c1
        have z2 := HBX.out.c2
        have z3 := HBX.out.c3
        go_cut [9, 10, 11, 12] (fun s9 s10 s11 s12 W => ∃ (d : Dk.D) (c : Int), s10 = .int .i64 c ∧ s12 = .int .i64 c ∧ d.writes ≤ 65 + 200 * (k + 1) ∧ Hid (St w W g s g' s' n d s9 s11))
        case first =>
          by_cases o2 : y.o = 2
          · have b2 : (y.o == 2) = true := beq_iff_eq.2 o2
            have ha0 := HOK.out.a0
            have ha1 := HOK.out.a1
            clear o2
            go_wp2_with fail
            refine (fuse_any g s n d y.a y.c W0 HS0.out.1.run.at_ ha0 ha1).mono ?_
            rintro e w4 ⟨rfl, hd4, hk4⟩
            have HBX4 := Lib.hid (HBX.out.keep hk4 (fun x => HXB.out _ (.inl x) rfl))
            have HP4 := Lib.hid (HS0.out.1.turn1 hd4 hk4)
            have HD4 := Lib.hid hd4
            have HK4 := Lib.hid hk4
            clear hd4 hk4 z0 z1 z2 z3
            have z1 := HBX4.out.c1
            have z2 := HBX4.out.c2
            go_wp2_with fail
            refine (rfuse_any g' s' n d y.a y.c w4 HP4.out.rd ha0 ha1).mono ?_
            rintro e w5 ⟨rfl, hd5, hk5⟩
            have HS5 := Lib.hid (HS0.out.both HD4.out HK4.out hd5 hk5)
            clear hd5 hk5
            go_wp2
            go_meet
            case rel => exact ⟨Dk.fuseTo d y.a y.c, c, rfl, rfl, by have hcw : (Dk.fuseTo d y.a y.c).writes = d.writes := rfl; omega, HS5.out⟩
          have b2 : (y.o == 2) = false := beq_eq_false_iff_ne.2 o2
          by_cases o4 : y.o = 4
          · have b4 : (y.o == 4) = true := beq_iff_eq.2 o4
            have ha1 := HOK.out.a1
            have HT1 := turn_any g s n d y.a (lowByte5 y.c) W0 HS0.out.1.run.at_ ha1
            rw [lowByte5_toNat] at HT1
            have HT1 := Lib.hid HT1
            have HT2 : Hid (∀ W, RDiskAt W g' s' n d → Calls Try.prog 15 #[.pointer (some ⟨g', 0, none⟩), .int .i64 y.a, .int .u8 (y.c % 256)] W fun e w' => e = .returned (.int .i64 (Dk.tcode n y.a)) ∧ RDiskAt w' g' s' n (Dk.tstate n d y.a (lowByte5 y.c)) ∧ Kept (Two g' s') W w') := fun W h => by
              have := rturn_any g' s' n d y.a (lowByte5 y.c) W h ha1
              rw [lowByte5_toNat] at this
              exact this
            clear o2 o4
            go_wp2_with fail
            refine HT1.out.mono ?_
            rintro e w4 ⟨rfl, hd4, hk4⟩
            have HBX4 := Lib.hid (HBX.out.keep hk4 (fun x => HXB.out _ (.inl x) rfl))
            have HP4 := Lib.hid (HS0.out.1.turn1 hd4 hk4)
            have HD4 := Lib.hid hd4
            have HK4 := Lib.hid hk4
            clear hd4 hk4 z0 z1 z2 z3 HT1
            have z1 := HBX4.out.c1
            have z2 := HBX4.out.c2
            go_wp2_with fail
            refine (HT2.out w4 HP4.out.rd).mono ?_
            rintro e w5 ⟨rfl, hd5, hk5⟩
            have HS5 := Lib.hid (HS0.out.both HD4.out HK4.out hd5 hk5)
            clear hd5 hk5 HT2
            go_wp2
            go_meet
            case rel => exact ⟨Dk.tstate n d y.a (lowByte5 y.c), c, rfl, rfl, by rw [tstate_writes]; omega, HS5.out⟩
          have b4 : (y.o == 4) = false := beq_eq_false_iff_ne.2 o4
          rcases HSX.out with ⟨F, K, r, lb, lr, x, rfl, rfl, hn4, hlg, hfx⟩ | ⟨rfl, rfl⟩
          · have HLG := Lib.hid hlg
            have HFX := Lib.hid hfx
            clear hlg hfx HSX
            by_cases o0 : y.o = 0
            · have b0 : (y.o == 0) = true := beq_iff_eq.2 o0
              obtain ⟨q, hq⟩ : ∃ q, Lg.appS n d x y.l = q := ⟨_, rfl⟩
              have hww := Lg.app_writes n d x y.l
              rw [hq] at hww
              have HQ := Lib.hid hq
              clear o0 o2 o4 hq
              go_wp2_with fail
              refine (logs_app1 HLG.out (by omega) y.A y.m y.cap y.l HOK.out.len HOK.out.m0 (by have := HOK.out.m1; unfold maxLen; omega) HOK.out.bytes q HQ.out).mono ?_
              rintro e w4 ⟨rfl, F4, K4, v4, hl4, hk4, hK4⟩
              have HBX4 := Lib.hid (HBX.out.keep hk4 (fun h => HFX.out _ (HLG.out.kf _ h) rfl))
              have HOK4 := Lib.hid (HOK.out.keep (HLG.out.mineK hk4))
              have HL4 := Lib.hid hl4
              clear hl4 hk4 hK4 z0 z1 z2 z3 HLG
              have z3 := HBX4.out.c3
              go_wp2_with fail
              refine (logs_app2 HL4.out (by omega) y.A y.m y.cap y.l HOK4.out.len HOK4.out.m0 (by have := HOK4.out.m1; unfold maxLen; omega) HOK4.out.bytes q HQ.out).mono ?_
              rintro e w5 ⟨rfl, hl5, _⟩
              have HL5 := Lib.hid hl5
              clear hl5 HL4
              go_wp2
              go_meet
              case rel => exact ⟨q.1, q.2.1, rfl, rfl, by omega, HL5.out.pair, .inl ⟨F4, K4, v4, lb, lr, q.2.2, rfl, rfl, hn4, HL5.out⟩⟩
            have b0 : (y.o == 0) = false := beq_eq_false_iff_ne.2 o0
            by_cases o1 : y.o = 1
            · have b1 : (y.o == 1) = true := beq_iff_eq.2 o1
              obtain ⟨m2, hm2⟩ : ∃ m2, often y = m2 := ⟨_, rfl⟩
              have hm4 : m2 ≤ 4 := by rw [← hm2]; unfold often; omega
              have HM2 := Lib.hid hm2
              obtain ⟨q, hq⟩ : ∃ q, Lg.onlyS n d x (List.replicate m2 y.l) = q := ⟨_, rfl⟩
              have hww := Lg.only_writes n d x (List.replicate m2 y.l)
              rw [hq] at hww
              have HQ := Lib.hid hq
              clear o0 o1 o2 o4 hq hm2
              go_wp2_with fail
              refine (many_any y W0).mono ?_
              rintro e w4 ⟨v4, rfl, ho, hb4⟩
              have HL4 := Lib.hid (HLG.out.below hb4)
              have HOK4 := Lib.hid (HOK.out.keep (Kept.of_below hb4))
              have HBX4 := Lib.hid (HBX.out.keep (F := No) (Kept.of_below hb4) id)
              obtain ⟨A4, c4, rfl, hrw⟩ := rowIn_many ho (HOK4.out.sl HL4.out.held.fge) HLG.out.held.flt
              rw [HM2.out] at hrw
              rw [HM2.out]
              have HRW := Lib.hid hrw
              clear ho hb4 hrw HLG
              go_wp2_with fail
              refine (logs_only1 HL4.out (by omega) hn4 A4 m2 c4 _ (List.length_replicate ..) (by omega) HRW.out q HQ.out).mono ?_
              rintro e w6 ⟨rfl, F6, K6, v6, hl6, hk6, hK6⟩
              have HBX6 := Lib.hid (HBX4.out.keep hk6 (fun h => HFX.out _ (HL4.out.kf _ h) rfl))
              have HOK6 := Lib.hid (HOK4.out.keep (HL4.out.mineK hk6))
              have HL6 := Lib.hid hl6
              clear hl6 hk6 hK6 z0 z1 z2 z3 HL4 HRW HOK4 HBX4
              have z0 := HBX6.out.c0
              have z1 := HBX6.out.c1
              have z2 := HBX6.out.c2
              have z3 := HBX6.out.c3
              go_wp2_with fail
              refine (many_any y w6).mono ?_
              rintro e w7 ⟨v7, rfl, ho, hb7⟩
              have HL7 := Lib.hid (HL6.out.below hb7)
              have HOK7 := Lib.hid (HOK6.out.keep (Kept.of_below hb7))
              obtain ⟨A7, c7, rfl, hrw⟩ := rowIn_many ho (HOK7.out.sl HL7.out.held.fge) HL6.out.held.flt
              rw [HM2.out] at hrw
              rw [HM2.out]
              have HRW := Lib.hid hrw
              clear ho hb7 hrw HL6
              go_wp2_with fail
              refine (logs_only2 HL7.out (by omega) hn4 A7 m2 c7 _ (List.length_replicate ..) (by omega) HRW.out q HQ.out).mono ?_
              rintro e w8 ⟨rfl, hl8, _⟩
              have HL8 := Lib.hid hl8
              clear hl8 HL7
              go_wp2
              go_meet
              case rel => exact ⟨q.1, q.2.1, rfl, rfl, by omega, HL8.out.pair, .inl ⟨F6, K6, v6, lb, lr, q.2.2, rfl, rfl, hn4, HL8.out⟩⟩
            have b1 : (y.o == 1) = false := beq_eq_false_iff_ne.2 o1
            by_cases o3 : y.o = 3
            · have b3 : (y.o == 3) = true := beq_iff_eq.2 o3
              clear o0 o1 o2 o3 o4
              go_wp2_with fail
              refine (crash_any g s n d W0 HS0.out.1.run.at_).mono ?_
              rintro e w4 ⟨rfl, hd4, hk4⟩
              have HP4 := Lib.hid (HS0.out.1.turn1 hd4 hk4)
              clear hd4 hk4
              go_wp2_with fail
              refine (rcrash_any g' s' n d w4 HP4.out.rd).mono ?_
              rintro e w5 ⟨rfl, hd5, hk5⟩
              have HP5 := Lib.hid (HP4.out.turn2 hd5 hk5)
              clear hd5 hk5 HP4
              go_wp2_with fail
              refine (open_st HP5.out (by have hcw : (Dk.crash d).writes = d.writes := rfl; omega)).mono ?_
              rintro e w6 ⟨u6, c6, rfl, HM6⟩
              go_wp2_with fail
              refine HM6.out.mono ?_
              rintro e w7 ⟨v7, d7, rfl, hw7, HS7⟩
              clear HM6
              go_wp2_with fail
              go_meet
              case rel => exact ⟨d7, c6, rfl, rfl, by have hcw : (Dk.crash d).writes = d.writes := rfl; omega, HS7.out⟩
            have b3 : (y.o == 3) = false := beq_eq_false_iff_ne.2 o3
            clear o0 o1 o2 o3 o4
            go_wp2_with fail
            refine (open_st HS0.out.1 (by omega)).mono ?_
            rintro e w6 ⟨u6, c6, rfl, HM6⟩
            go_wp2_with fail
            refine HM6.out.mono ?_
            rintro e w7 ⟨v7, d7, rfl, hw7, HS7⟩
            clear HM6
            go_wp2_with fail
            go_meet
            case rel => exact ⟨d7, c6, rfl, rfl, by omega, HS7.out⟩
          · by_cases o3 : y.o = 3
            · have b3 : (y.o == 3) = true := beq_iff_eq.2 o3
              have b0 : (y.o == 0) = false := beq_eq_false_iff_ne.2 (by omega)
              have b1 : (y.o == 1) = false := beq_eq_false_iff_ne.2 (by omega)
              clear o2 o3 o4
              go_wp2_with fail
              refine (crash_any g s n d W0 HS0.out.1.run.at_).mono ?_
              rintro e w4 ⟨rfl, hd4, hk4⟩
              have HP4 := Lib.hid (HS0.out.1.turn1 hd4 hk4)
              clear hd4 hk4
              go_wp2_with fail
              refine (rcrash_any g' s' n d w4 HP4.out.rd).mono ?_
              rintro e w5 ⟨rfl, hd5, hk5⟩
              have HP5 := Lib.hid (HP4.out.turn2 hd5 hk5)
              clear hd5 hk5 HP4
              go_wp2_with fail
              refine (open_st HP5.out (by have hcw : (Dk.crash d).writes = d.writes := rfl; omega)).mono ?_
              rintro e w6 ⟨u6, c6, rfl, HM6⟩
              go_wp2_with fail
              refine HM6.out.mono ?_
              rintro e w7 ⟨v7, d7, rfl, hw7, HS7⟩
              clear HM6
              go_wp2_with fail
              go_meet
              case rel => exact ⟨d7, c6, rfl, rfl, by have hcw : (Dk.crash d).writes = d.writes := rfl; omega, HS7.out⟩
            have b3 : (y.o == 3) = false := beq_eq_false_iff_ne.2 o3
            have hbb : ((y.o == 0) = true ∧ (y.o == 1) = false) ∨ ((y.o == 0) = false ∧ (y.o == 1) = true) ∨ ((y.o == 0) = false ∧ (y.o == 1) = false) := by
              by_cases o0 : y.o = 0
              · exact .inl ⟨beq_iff_eq.2 o0, beq_eq_false_iff_ne.2 (by omega)⟩
              · by_cases o1 : y.o = 1
                · exact .inr (.inl ⟨beq_eq_false_iff_ne.2 o0, beq_iff_eq.2 o1⟩)
                · exact .inr (.inr ⟨beq_eq_false_iff_ne.2 o0, beq_eq_false_iff_ne.2 o1⟩)
            clear o2 o3 o4
            rcases hbb with ⟨b0, b1⟩ | ⟨b0, b1⟩ | ⟨b0, b1⟩
            all_goals
              go_wp2_with fail
              refine (open_st HS0.out.1 (by omega)).mono ?_
              rintro e w6 ⟨u6, c6, rfl, HM6⟩
              go_wp2_with fail
              refine HM6.out.mono ?_
              rintro e w7 ⟨v7, d7, rfl, hw7, HS7⟩
              clear HM6
              go_wp2_with fail
              go_meet
              case rel => exact ⟨d7, c6, rfl, rfl, by omega, HS7.out⟩
        case rest =>
          obtain ⟨d2, c2, rfl, rfl, hw2, HS2⟩ := hcut
          clear HS0 HOK HBX HXB HSX z0 z1 z2 z3
          have hcn2 : (c2 != c2) = false := by simp
          go_wp2_with fail
          refine (same_st HS2.out).mono ?_
          rintro e w8 ⟨rfl, hs8⟩
          have HS8 := Lib.hid hs8
          clear hs8 HS2
          go_wp2
          go_roundg gk
          case measure => omega
          case rel => exact ⟨k + 1, d2, c2, by omega, rfl, rfl, by first | rfl | go_num, hw2, HS8.out⟩
      · have d1 : decide ((k : Int) < (len : Int)) = false := decide_eq_false (by omega)
        have d2 : decide (k < len) = false := decide_eq_false hlt
        go_wp2
        go_ret
        exact ⟨rfl, HS.out.1.run.bel⟩
end Go.Proofs.Ytoocifoglhhnmaa
