/- What package expand's inPeriods goes through. -/
import Derived.Test.YtnfcchimkfnmkaaGreatDoorExI
import Derived.Test.YtnfcchimkfnmkaaGreatDoorExJ
import Derived.Test.YtnfcchimkfnmkaaGreatDoorMbF
import Derived.Test.YtnfcchimkfnmkaaGreatDoorDyP
import Derived.RangeFuncNested
import Derived.RangeFuncBound
import Derived.RangeFuncCalls
import Derived.RangeFuncLeaves
import Derived.Shelf.Abstract
import Derived.Shelf.RegionOpen
import Derived.OwnWalkIn
import Derived.TacticsInMore
import Derived.LoopNIn
import Derived.LoopIn
set_option linter.unusedVariables false
namespace Go.Proofs.YtnfcchimkfnmkaaGreatDoor.Ex
open Go Go.RowKit Go.Shelf Cv St Ru Dd Mb
attribute [local go_sem] Oper.semAt_some

set_option maxRecDepth 100000 in
set_option maxHeartbeats 16000000 in
theorem pers_seq (W0 : World) (S : RS) (r : Ru) (start first last : Int) (p n : Nat) (hn : 1 ≤ n) (hR : RuAt W0 S r) (hm : mayR r = true) (hs : St.may start = true) (h3 : r.freq ≤ 4) (hp : r.pos ≠ []) (f1 : isday first = true) (l1 : -1000000 ≤ last) (l2 : last ≤ 2932896) :
    SeqX Fence.wide n Tryz.prog 126 #[at0 (p + 2), at0 (p + 3), at0 p, at0 (p + 1)] (setC W0 p) (InC W0 p S r start first last) (persL r start first last) := by
  intro l J Jx W hIn hJ hJx hY h0
  refine callsIn_wide.2 ?_
  have RA := Lib.hid hR
  have FD := of_decide_eq_true f1
  obtain ⟨qP1, qP2⟩ := pos_may hm
  have PP := Lib.hid (fun (m : Int) (a : List Int) (hl : isday last = true) (hd : isday m = true) (n1 : first ≤ m) (n2 : m ≤ last) ha => perA_pre (r := r) (start := start) (first := first) (last := last) (n := m) (a := a) hm hs h3 hp f1 hl hd n1 n2 ha)
  have PN := Lib.hid (fun (m : Int) (hd : isday m = true) (n1 : first ≤ m) hb => perA_next (r := r) (start := start) (first := first) (n := m) hm hs h3 hp f1 hd n1 hb)
  have PL := Lib.hid (fun (m : Int) (hl : isday last = true) (hd : isday m = true) (n1 : first ≤ m) (n2 : m ≤ last) hb => perA_last (r := r) (start := start) (first := first) (last := last) (n := m) hm hs h3 hp f1 hl hd n1 n2 hb)
  have P0 := Lib.hid (perA_0 r start first)
  have PE := Lib.hid (fun (e : last < first) => show persL r start first last = [] by unfold persL; rw [if_neg (by omega)])
  have DI := Lib.hid (fun (m : Int) (hd : isday m = true) => days_in (r := r) (n := m) hm hd)
  have SR := Lib.hid (fun m => show (setR r start m 100000).1.Pairwise (· < ·) from ones_rise)
  have SF := Lib.hid (fun m => show ((setR r start m 100000).1.length : Int) ≤ 100000 from setR_few (by decide))
  have HPS := Lib.hid hp
  have M1 := Lib.hid hm
  have KY := Lib.hid hY
  have KJ := Lib.hid hJ
  have K0 := Lib.hid h0
  have QP1 := Lib.hid qP1
  have QP2 := Lib.hid qP2
  obtain ⟨XS, hXS⟩ : ∃ l, persL r start first last = l := ⟨_, rfl⟩
  rw [hXS] at PP PL PE KY ⊢
  clear hXS hm hs hY hJ h0 qP1 qP2 hR h3 hp f1
  have II := Lib.hid hIn
  have FF := hIn.four
  clear hIn
  obtain ⟨ra6, rn6, rc6, ra7, rn7, rc7, ra8, rn8, rc8, ra9, rn9, rc9, ra10, rn10, rc10, ra11, rn11, rc11, ra12, rn12, rc12, ra13, rn13, rc13, ra14, rn14, rc14⟩ := S
  obtain ⟨rfreq, ritv, rcnt, rtil, rwkst, rends, rmon, rweek, ryday, rmday, rday, rhour, rminu, rsec, rpos⟩ := r
  show Calls Tryz.prog 126 #[.func (.yield l) #[] #[], .pointer (some ⟨p + 2, 0, none⟩), .pointer (some ⟨p + 3, 0, none⟩), .pointer (some ⟨p, 0, none⟩), .pointer (some ⟨p + 1, 0, none⟩)] W _
  go_enter Tryz.func126, Tryz.ntmps126
  have rs1 : W.cell? ⟨p + 1, 0, none⟩ = some (.int .i64 start) := FF.a
  have rs2 : W.cell? ⟨p + 2, 0, none⟩ = some (.int .i64 first) := FF.b
  have rs3 : W.cell? ⟨p + 3, 0, none⟩ = some (.int .i64 last) := FF.c
  go_wp2
  go_loopw [6] (fun i wr => ∃ n : Int, i = .int .i64 n ∧ (first ≤ n ∧ n ≤ 2932897) ∧ Hid (n ≤ last → J noneX (perA ⟨rfreq, ritv, rcnt, rtil, rwkst, rends, rmon, rweek, ryday, rmday, rday, rhour, rminu, rsec, rpos⟩ start first n) wr) ∧ Hid (last < n → J noneX XS wr) ∧ Hid (InC W0 p ⟨ra6, rn6, rc6, ra7, rn7, rc7, ra8, rn8, rc8, ra9, rn9, rc9, ra10, rn10, rc10, ra11, rn11, rc11, ra12, rn12, rc12, ra13, rn13, rc13, ra14, rn14, rc14⟩ ⟨rfreq, ritv, rcnt, rtil, rwkst, rends, rmon, rweek, ryday, rmday, rday, rhour, rminu, rsec, rpos⟩ start first last wr)) (fun i _ => (last + 1 - intOf i).toNat)
  case atStart => exact ⟨first, rfl, ⟨Int.le_refl _, by omega⟩, Lib.hid (fun _ => by rw [P0.out]; exact K0.out), Lib.hid (fun q => by rw [PE.out q]; exact K0.out), II⟩
  case round =>
    clear rs1 rs2 rs3
    obtain ⟨wq, rfl⟩ : ∃ wq : World, wq = wr := ⟨_, rfl⟩
    clear II FF K0
    obtain ⟨n0, rfl, ⟨n1, n2⟩, JN, JL, IC⟩ := hrel
    have FC := IC.out.four
    by_cases hlt : n0 ≤ last
    · have J0 := Lib.hid (JN.out hlt)
      have t2 : decide (n0 ≤ last) = true := decide_eq_true hlt
      have dn : isday n0 = true := decide_eq_true ⟨by omega, by omega⟩
      have dl : isday last = true := decide_eq_true ⟨by omega, by omega⟩
      have DL := Lib.hid dl
      have DN := Lib.hid dn
      obtain ⟨dr1, dr2, dr3, dr4⟩ := DI.out n0 dn
      obtain ⟨⟨a, b⟩, hab⟩ : ∃ q, daysR ⟨rfreq, ritv, rcnt, rtil, rwkst, rends, rmon, rweek, ryday, rmday, rday, rhour, rminu, rsec, rpos⟩ (n0 * 86400) = q := ⟨_, rfl⟩
      obtain ⟨⟨T, x⟩, hT⟩ : ∃ q, setR ⟨rfreq, ritv, rcnt, rtil, rwkst, rends, rmon, rweek, ryday, rmday, rday, rhour, rminu, rsec, rpos⟩ start (n0 * 86400) 100000 = q := ⟨_, rfl⟩
      obtain ⟨P, hP⟩ : ∃ l, pickL rpos T = l := ⟨_, rfl⟩
      have rT := SR.out (n0 * 86400)
      have lT := SF.out (n0 * 86400)
      rw [hT] at rT lT
      replace lT : (T.length : Int) ≤ 100000 := lT
      replace rT : T.Pairwise (· < ·) := rT
      rw [hab] at dr1 dr2 dr3 dr4
      replace dr2 : n0 ≤ b := dr2
      replace dr3 : b ≤ 2932896 := dr3
      have AN := Lib.hid (fun (hb : isday (b + 1) = true) => show perA ⟨rfreq, ritv, rcnt, rtil, rwkst, rends, rmon, rweek, ryday, rmday, rday, rhour, rminu, rsec, rpos⟩ start first n0 ++ P = perA ⟨rfreq, ritv, rcnt, rtil, rwkst, rends, rmon, rweek, ryday, rmday, rday, rhour, rminu, rsec, rpos⟩ start first (b + 1) by
        have q := PN.out n0 dn n1 (by rw [hab]; exact hb)
        rw [hab, hT] at q
        rw [← hP]
        exact q)
      have AL := Lib.hid (fun (hb : last < b + 1) => show perA ⟨rfreq, ritv, rcnt, rtil, rwkst, rends, rmon, rweek, ryday, rmday, rday, rhour, rminu, rsec, rpos⟩ start first n0 ++ P = XS by
        have q := PL.out n0 dl dn n1 hlt (by rw [hab]; exact hb)
        rw [hT] at q
        rw [← hP]
        exact q)
      have AP := Lib.hid (fun (s : List Int) (hs : s <+: P) => show perA ⟨rfreq, ritv, rcnt, rtil, rwkst, rends, rmon, rweek, ryday, rmday, rday, rhour, rminu, rsec, rpos⟩ start first n0 ++ s <+: XS from PP.out n0 s dl dn n1 hlt (by rw [hT]; rw [← hP] at hs; exact hs))
      have HAB := Lib.hid hab
      have HT := Lib.hid hT
      have HP := Lib.hid hP
      have RT := Lib.hid rT
      have lP : P.length ≤ 1000000 := by rw [← hP]; exact Nat.le_trans (pick_len _ _) (by omega)
      have lT : T.length ≤ 1000000 := by omega
      clear hab hT hP rT dr1 dr4 dn dl JN JL
      have IW : IntKind.i64.wrap (n0 * 86400) = n0 * 86400 := IntWalk.i64_in _ (by omega)
      have IW2 : IntKind.i64.wrap (b + 1) = b + 1 := IntWalk.i64_in _ (by omega)
      have rz0 : wq.cell? ⟨p, 0, none⟩ = some (.int .i64 rfreq) := FC.x.2 0 _ rfl
      have rz1 : wq.cell? ⟨p, 1, none⟩ = some (.int .i64 ritv) := FC.x.2 1 _ rfl
      have rz2 : wq.cell? ⟨p, 2, none⟩ = some (.int .i64 rcnt) := FC.x.2 2 _ rfl
      have rz3 : wq.cell? ⟨p, 3, none⟩ = some (.int .i64 rtil) := FC.x.2 3 _ rfl
      have rz4 : wq.cell? ⟨p, 4, none⟩ = some (.int .i64 rwkst) := FC.x.2 4 _ rfl
      have rz5 : wq.cell? ⟨p, 5, none⟩ = some (.bool rends) := FC.x.2 5 _ rfl
      have rz6 : wq.cell? ⟨p, 6, none⟩ = some (.slice ra6 rn6 rc6) := FC.x.2 6 _ rfl
      have rz7 : wq.cell? ⟨p, 7, none⟩ = some (.slice ra7 rn7 rc7) := FC.x.2 7 _ rfl
      have rz8 : wq.cell? ⟨p, 8, none⟩ = some (.slice ra8 rn8 rc8) := FC.x.2 8 _ rfl
      have rz9 : wq.cell? ⟨p, 9, none⟩ = some (.slice ra9 rn9 rc9) := FC.x.2 9 _ rfl
      have rz10 : wq.cell? ⟨p, 10, none⟩ = some (.slice ra10 rn10 rc10) := FC.x.2 10 _ rfl
      have rz11 : wq.cell? ⟨p, 11, none⟩ = some (.slice ra11 rn11 rc11) := FC.x.2 11 _ rfl
      have rz12 : wq.cell? ⟨p, 12, none⟩ = some (.slice ra12 rn12 rc12) := FC.x.2 12 _ rfl
      have rz13 : wq.cell? ⟨p, 13, none⟩ = some (.slice ra13 rn13 rc13) := FC.x.2 13 _ rfl
      have rz14 : wq.cell? ⟨p, 14, none⟩ = some (.slice ra14 rn14 rc14) := FC.x.2 14 _ rfl
      have rs1 : wq.cell? ⟨p + 1, 0, none⟩ = some (.int .i64 start) := FC.a
      have rs2 : wq.cell? ⟨p + 2, 0, none⟩ = some (.int .i64 first) := FC.b
      have rs3 : wq.cell? ⟨p + 3, 0, none⟩ = some (.int .i64 last) := FC.c
      go_wp2_with fail
      refine (setP_is _ ⟨ra6, rn6, rc6, ra7, rn7, rc7, ra8, rn8, rc8, ra9, rn9, rc9, ra10, rn10, rc10, ra11, rn11, rc11, ra12, rn12, rc12, ra13, rn13, rc13, ra14, rn14, rc14⟩ ⟨rfreq, ritv, rcnt, rtil, rwkst, rends, rmon, rweek, ryday, rmday, rday, rhour, rminu, rsec, rpos⟩ start (n0 * 86400) 100000 (T, x) (RA.out.below IC.out.below) HT.out).mono ?_
      rintro e w5 ⟨A1, c1, he, i1, b5⟩
      replace he : e = .returned (.tuple #[.slice A1 T.length c1, .int .i64 x]) := he
      subst he
      clear rz0 rz1 rz2 rz3 rz4 rz5 rz6 rz7 rz8 rz9 rz10 rz11 rz12 rz13 rz14 rs1 rs2 rs3
      have I1 := Lib.hid (show IsAt w5 A1 T.length T from i1)
      clear i1
      have IC5 := Lib.hid (IC.out.on b5)
      have FC5 := FC.below b5
      have J5 := Lib.hid (KJ.out.on J0.out b5)
      clear IC FC J0
      have rz0 : w5.cell? ⟨p, 0, none⟩ = some (.int .i64 rfreq) := FC5.x.2 0 _ rfl
      have rz1 : w5.cell? ⟨p, 1, none⟩ = some (.int .i64 ritv) := FC5.x.2 1 _ rfl
      have rz2 : w5.cell? ⟨p, 2, none⟩ = some (.int .i64 rcnt) := FC5.x.2 2 _ rfl
      have rz3 : w5.cell? ⟨p, 3, none⟩ = some (.int .i64 rtil) := FC5.x.2 3 _ rfl
      have rz4 : w5.cell? ⟨p, 4, none⟩ = some (.int .i64 rwkst) := FC5.x.2 4 _ rfl
      have rz5 : w5.cell? ⟨p, 5, none⟩ = some (.bool rends) := FC5.x.2 5 _ rfl
      have rz6 : w5.cell? ⟨p, 6, none⟩ = some (.slice ra6 rn6 rc6) := FC5.x.2 6 _ rfl
      have rz7 : w5.cell? ⟨p, 7, none⟩ = some (.slice ra7 rn7 rc7) := FC5.x.2 7 _ rfl
      have rz8 : w5.cell? ⟨p, 8, none⟩ = some (.slice ra8 rn8 rc8) := FC5.x.2 8 _ rfl
      have rz9 : w5.cell? ⟨p, 9, none⟩ = some (.slice ra9 rn9 rc9) := FC5.x.2 9 _ rfl
      have rz10 : w5.cell? ⟨p, 10, none⟩ = some (.slice ra10 rn10 rc10) := FC5.x.2 10 _ rfl
      have rz11 : w5.cell? ⟨p, 11, none⟩ = some (.slice ra11 rn11 rc11) := FC5.x.2 11 _ rfl
      have rz12 : w5.cell? ⟨p, 12, none⟩ = some (.slice ra12 rn12 rc12) := FC5.x.2 12 _ rfl
      have rz13 : w5.cell? ⟨p, 13, none⟩ = some (.slice ra13 rn13 rc13) := FC5.x.2 13 _ rfl
      have rz14 : w5.cell? ⟨p, 14, none⟩ = some (.slice ra14 rn14 rc14) := FC5.x.2 14 _ rfl
      have rs1 : w5.cell? ⟨p + 1, 0, none⟩ = some (.int .i64 start) := FC5.a
      go_wp2_with fail
      refine (picked_is _ ⟨ra6, rn6, rc6, ra7, rn7, rc7, ra8, rn8, rc8, ra9, rn9, rc9, ra10, rn10, rc10, ra11, rn11, rc11, ra12, rn12, rc12, ra13, rn13, rc13, ra14, rn14, rc14⟩ ⟨rfreq, ritv, rcnt, rtil, rwkst, rends, rmon, rweek, ryday, rmday, rday, rhour, rminu, rsec, rpos⟩ A1 T.length c1 T P (RA.out.below IC5.out.below) QP1.out QP2.out I1.out RT.out lT HP.out).mono ?_
      rintro e x2 ⟨A4, c4, rfl, i4, f4, b6⟩
      clear rz0 rz1 rz2 rz3 rz4 rz5 rz6 rz7 rz8 rz9 rz10 rz11 rz12 rz13 rz14 rs1
      have FR4 := Lib.hid (show Fresh w5.heap.size A4 by
        rcases f4 with ⟨q, -⟩ | f4
        · exact absurd q HPS.out
        · exact f4)
      have I4 := Lib.hid i4
      have IC6 := Lib.hid (IC5.out.on b6)
      have K1 := Lib.hid (KJ.out noneX (fun k => w5.heap.size ≤ k ∧ k < x2.heap.size) _ w5 x2 J5.out (Keeps.of_below b6) (fun k hk => .inr hk.1))
      have CX := Lib.hid (show ∀ k, (w5.heap.size ≤ k ∧ k < x2.heap.size) → ¬ setC W0 p k from fun k hk hc => by
        have a := IC5.out.below.size
        have b := IC5.out.four.lt
        rcases hc with h | h <;> omega)
      clear i4 f4 J5 IC5 FC5 I1 b5 b6
      obtain ⟨mP, hmP⟩ : ∃ m, P.length = m := ⟨_, rfl⟩
      have LP := Lib.hid hmP
      rw [hmP] at lP I4 ⊢
      clear hmP
      go_wp2
      go_loopw [29] (fun i wr => ∃ u : Nat, u ≤ mP ∧ i = .int .i64 u ∧ Hid (J (fun k => w5.heap.size ≤ k ∧ k < x2.heap.size) (perA ⟨rfreq, ritv, rcnt, rtil, rwkst, rends, rmon, rweek, ryday, rmday, rday, rhour, rminu, rsec, rpos⟩ start first n0 ++ P.take u) wr) ∧ Hid (Keeps (fun k => (w5.heap.size ≤ k ∧ k < x2.heap.size) ∨ setC W0 p k) x2 wr)) (fun i _ => mP - (intOf i).toNat)
      case atStart => exact ⟨0, Nat.zero_le _, rfl, Lib.hid (by simpa using K1.out), Lib.hid (Keeps.refl _ _)⟩
      case round =>
        clear K1
        obtain ⟨u, hu, rfl, JN, KK⟩ := hrel
        by_cases h5 : u < mP
        · obtain ⟨bl2, of2, ea2, hl2, hc2⟩ := (is_keeps I4.out FR4.out KK.out (fun k a b => .inl ⟨a, b⟩)).2 (show 0 < mP by omega)
          subst ea2
          have c2 := hc2 u h5
          have NM := Lib.hid (take_at (l := P) (t := u) (by rw [LP.out]; exact h5))
          have PRE := Lib.hid (show (perA ⟨rfreq, ritv, rcnt, rtil, rwkst, rends, rmon, rweek, ryday, rmday, rday, rhour, rminu, rsec, rpos⟩ start first n0 ++ P.take u) ++ [iat P u] <+: XS by
            rw [List.append_assoc, ← NM.out]
            exact AP.out _ (List.take_prefix _ _))
          clear hc2
          generalize iat P u = m at *
          obtain ⟨fn, tmps, assign, body, hy, hR⟩ := KY.out _ _ m wr JN.out (fun k hk => by have := KK.out.size; omega) CX.out PRE.out
          have HRD := Lib.hid hR
          clear hR
          refine wpIn_wide (n := n).1 ?_
          gi_wp2
          refine HRD.out.mono ?_
          rintro e w7 (⟨rfl, hj, hk⟩ | ⟨rfl, hj, hk⟩)
          · have JN7 := Lib.hid (show J (fun k => w5.heap.size ≤ k ∧ k < x2.heap.size) (perA ⟨rfreq, ritv, rcnt, rtil, rwkst, rends, rmon, rweek, ryday, rmday, rday, rhour, rminu, rsec, rpos⟩ start first n0 ++ P.take (u + 1)) w7 by
              rw [List.append_assoc, ← NM.out] at hj
              exact hj)
            have KK7 := Lib.hid (KK.out.trans hk)
            clear hj hk hy HRD PRE
            gi_wp2
            go_roundw
            case rel => exact ⟨u + 1, by omega, by go_num, JN7, KK7⟩
            case measure => simp [intOf]; omega
          · have JX7 := Lib.hid (hJx _ noneX _ w7 w7 hj (Keeps.refl _ _) (fun k hk => hk.elim))
            clear hj hk hy HRD
            gi_wp2
            refine bodyPost_ret (results_none rfl _ _ _) rfl ?_
            exact ⟨⟨_, rfl⟩, .inr ⟨_, PRE.out, JX7.out⟩⟩
        · obtain rfl : mP = u := by omega
          have JP := Lib.hid (show J noneX (perA ⟨rfreq, ritv, rcnt, rtil, rwkst, rends, rmon, rweek, ryday, rmday, rday, rhour, rminu, rsec, rpos⟩ start first n0 ++ P) wr by
            have q := KJ.out _ noneX _ wr wr JN.out (Keeps.refl _ _) (fun k hk => hk.elim)
            rwa [List.take_of_length_le (by rw [LP.out]; exact Nat.le_refl _)] at q)
          have IC7 := Lib.hid (IC6.out.keeps KK.out fun k hk => .inr hk)
          have FC7 := IC7.out.four
          clear JN KK
          have rz0 : wr.cell? ⟨p, 0, none⟩ = some (.int .i64 rfreq) := FC7.x.2 0 _ rfl
          have rz1 : wr.cell? ⟨p, 1, none⟩ = some (.int .i64 ritv) := FC7.x.2 1 _ rfl
          have rz2 : wr.cell? ⟨p, 2, none⟩ = some (.int .i64 rcnt) := FC7.x.2 2 _ rfl
          have rz3 : wr.cell? ⟨p, 3, none⟩ = some (.int .i64 rtil) := FC7.x.2 3 _ rfl
          have rz4 : wr.cell? ⟨p, 4, none⟩ = some (.int .i64 rwkst) := FC7.x.2 4 _ rfl
          have rz5 : wr.cell? ⟨p, 5, none⟩ = some (.bool rends) := FC7.x.2 5 _ rfl
          have rz6 : wr.cell? ⟨p, 6, none⟩ = some (.slice ra6 rn6 rc6) := FC7.x.2 6 _ rfl
          have rz7 : wr.cell? ⟨p, 7, none⟩ = some (.slice ra7 rn7 rc7) := FC7.x.2 7 _ rfl
          have rz8 : wr.cell? ⟨p, 8, none⟩ = some (.slice ra8 rn8 rc8) := FC7.x.2 8 _ rfl
          have rz9 : wr.cell? ⟨p, 9, none⟩ = some (.slice ra9 rn9 rc9) := FC7.x.2 9 _ rfl
          have rz10 : wr.cell? ⟨p, 10, none⟩ = some (.slice ra10 rn10 rc10) := FC7.x.2 10 _ rfl
          have rz11 : wr.cell? ⟨p, 11, none⟩ = some (.slice ra11 rn11 rc11) := FC7.x.2 11 _ rfl
          have rz12 : wr.cell? ⟨p, 12, none⟩ = some (.slice ra12 rn12 rc12) := FC7.x.2 12 _ rfl
          have rz13 : wr.cell? ⟨p, 13, none⟩ = some (.slice ra13 rn13 rc13) := FC7.x.2 13 _ rfl
          have rz14 : wr.cell? ⟨p, 14, none⟩ = some (.slice ra14 rn14 rc14) := FC7.x.2 14 _ rfl
          have EA := Lib.hid (daysP_is wr ⟨ra6, rn6, rc6, ra7, rn7, rc7, ra8, rn8, rc8, ra9, rn9, rc9, ra10, rn10, rc10, ra11, rn11, rc11, ra12, rn12, rc12, ra13, rn13, rc13, ra14, rn14, rc14⟩ ⟨rfreq, ritv, rcnt, rtil, rwkst, rends, rmon, rweek, ryday, rmday, rday, rhour, rminu, rsec, rpos⟩ (n0 * 86400) a b (RA.out.below IC7.out.below) HAB.out)
          go_wp2_with fail
          refine EA.out.mono ?_
          rintro e w8 ⟨rfl, b8⟩
          clear rz0 rz1 rz2 rz3 rz4 rz5 rz6 rz7 rz8 rz9 rz10 rz11 rz12 rz13 rz14
          have JP8 := Lib.hid (KJ.out.on JP.out b8)
          have IC8 := Lib.hid (IC7.out.on b8)
          have G1 := Lib.hid (fun (q : b + 1 ≤ last) => show J noneX (perA ⟨rfreq, ritv, rcnt, rtil, rwkst, rends, rmon, rweek, ryday, rmday, rday, rhour, rminu, rsec, rpos⟩ start first (b + 1)) w8 by rw [← AN.out (decide_eq_true ⟨by omega, by omega⟩)]; exact JP8.out)
          have G2 := Lib.hid (fun (q : last < b + 1) => show J noneX XS w8 by rw [← AL.out q]; exact JP8.out)
          clear JP IC7 FC7 b8 EA
          go_wp2
          go_roundw
          case rel => exact ⟨b + 1, by first | rfl | (congr 1), ⟨by omega, by omega⟩, G1, G2, IC8⟩
          case measure => simp [intOf]; omega
    · have t2 : decide (n0 ≤ last) = false := decide_eq_false hlt
      have JX := Lib.hid (JL.out (by omega))
      have rs1 : wq.cell? ⟨p + 1, 0, none⟩ = some (.int .i64 start) := FC.a
      have rs2 : wq.cell? ⟨p + 2, 0, none⟩ = some (.int .i64 first) := FC.b
      have rs3 : wq.cell? ⟨p + 3, 0, none⟩ = some (.int .i64 last) := FC.c
      go_wp2
      go_end0
      exact ⟨⟨_, rfl⟩, .inl JX.out⟩
end Go.Proofs.YtnfcchimkfnmkaaGreatDoor.Ex
