/- The walk of voklaw11.TimerOrder. -/
import Derived.Test.YtjodhfehfpmfaaaTiOrM
set_option linter.unusedVariables false
namespace Go.Proofs.Ytjodhfehfpmfaaa.Ti
open Go.RowKit Iv

set_option maxRecDepth 100000 in
set_option maxHeartbeats 16000000 in
theorem order_walk (w : World) (A : Option Addr) (n c : Nat) (ops : List Tg) (now : Int) (hA : TgAt w A n ops) (hm : n ≤ 9223372036854775807) :
    Calls Try.prog 8 #[.slice A n c, .int .i64 now] w fun e w' => e = .returned (.bool true) ∧ Below w.heap.size w w' := by
  have HA := Lib.hid hA
  have LN := Lib.hid hA.1
  clear hA
  go_enter Try.func8, Try.ntmps8
  go_wp2_with fail
  refine (first11 _).mono ?_
  rintro e w0 ⟨rfl, b0⟩
  have B0 := Lib.hid b0
  have sz0 := b0.size
  clear b0
  go_wp2_with fail
  refine (newB w0 w.heap.size sz0).mono ?_
  rintro e w1 ⟨rfl, q1, b1⟩
  generalize w0.heap.size = q at *
  have Q1 := Lib.hid q1
  have B1 := Lib.hid (B0.out.trans (b1.mono sz0))
  clear q1 b1 B0
  by_cases hb : 300 < n
  · have s1 : decide (300 < n) = true := decide_eq_true hb
    have s2 : decide ((300 : Int) < n) = true := decide_eq_true (by omega)
    go_wp2_with fail
    refine (first11 _).mono ?_
    rintro e wz ⟨rfl, bz⟩
    have BZ := Lib.hid (B1.out.trans (bz.mono B1.out.size))
    clear bz
    go_wp2_with fail
    go_ret
    exact ⟨rfl, BZ.out⟩
  have s1 : decide (300 < n) = false := decide_eq_false hb
  have s2 : decide ((300 : Int) < n) = false := decide_eq_false (by omega)
  go_wp2_with fail
  go_loopw [6] (fun i wr => ∃ t : Nat, i = .int .i64 t ∧ t ≤ n ∧ QB wr q (pushN ops t) w.heap.size (fun _ => False) ∧ Below w.heap.size w wr) (fun i _ => n - (intOf i).toNat)
  case atStart => exact ⟨0, rfl, Nat.zero_le _, Q1.out, B1.out⟩
  case round =>
    obtain ⟨wo, rfl⟩ : ∃ wo : World, wo = wr := ⟨_, rfl⟩
    obtain ⟨t, rfl, ht, hQ, hB⟩ := hrel
    have QO := Lib.hid hQ
    have BO := Lib.hid hB
    have szo := hB.size
    clear hQ hB Q1 B1
    by_cases hlt : t < n
    · have s0 : decide ((t : Int) < n) = true := decide_eq_true (by omega)
      have s00 : decide (t < n) = true := decide_eq_true hlt
      have i5 : (t : Int) < n := by omega
      have W1 : IntKind.i64.wrap ((t : Int) + 1) = (t : Int) + 1 := IntWalk.i64_in _ (by omega)
      have LE := Lib.hid (pushN_len ops t)
      have BD := Lib.hid (BO.out.trans ((Below.refl wo.heap.size wo).drew.mono szo))
      have QD := Lib.hid (QO.out.below ((Below.refl wo.heap.size wo).drew))
      have PE := Lib.hid (show pushN ops (t + 1) = insL ((gt ops t).1.2, (gt ops t).2) (pushN ops t) from rfl)
      obtain ⟨bq, oq, rfl, hlq, hcq⟩ := HA.out.2 (by omega)
      obtain ⟨-, c1, c2⟩ := hcq t (by omega)
      replace c1 := (BO.out.cell (p := ⟨bq, _, none⟩) hlq).trans c1
      replace c2 := (BO.out.cell (p := ⟨bq, _, none⟩) hlq).trans c2
      clear hcq
      go_wp2_with fail
      go_still_tail 11, (by kernel_rfl)
      change wpList _ _ _ _ _ wo.drew
      generalize wo.drew = wd at *
      have szd := BD.out.size
      go_wp2_with fail
      refine (pushB QD.out (gt ops t).1.2 (gt ops t).2 (by rw [LE.out]; omega)).mono ?_
      rintro e w2 ⟨rfl, q2, k2⟩
      rw [← PE.out] at q2
      have Q2 := Lib.hid q2
      have B2 := Lib.hid (BD.out.trans (k2.below szd))
      clear q2 k2 QD BD QO BO c1 c2
      go_wp2
      go_roundw
      case rel => exact ⟨t + 1, by go_num, by omega, Q2.out, B2.out⟩
      case measure => simp [intOf]; omega
    · obtain rfl : n = t := by omega
      have s0 : decide ((n : Int) < n) = false := decide_eq_false (by omega)
      have s00 : decide (n < n) = false := decide_eq_false (by omega)
      have PL := Lib.hid (pushN_len ops n)
      have PS := Lib.hid (pushN_srt ops n)
      have PP := Lib.hid (show (pushN ops n).Perm (ops.map itOf) by
        have := pushN_perm ops n (by rw [← LN.out]; exact Nat.le_refl _)
        rwa [List.take_of_length_le (by rw [← LN.out]; exact Nat.le_refl _)] at this)
      generalize pushN ops n = L at *
      have Q0 := Lib.hid (show QB wo q (L.drop 0) w.heap.size (fun k => Value.ownBlock (.slice none 0 0) = some k) from QO.out.more (Below.refl _ _) _ fun k hk => by cases hk)
      clear QO
      go_wp2_with fail
      go_loopw [7, 8] (fun ov i wr => ∃ (t : Nat) (v : Value), i = .int .i64 t ∧ t ≤ n ∧ v = ov ∧ QB wr q (L.drop t) w.heap.size (fun k => v.ownBlock = some k) ∧ OwnQ w.heap.size wr v (L.take t) ∧ Hid (∀ j, j < t → (gt L j).1 ≤ now) ∧ Below w.heap.size w wr) (fun _ i _ => n + 1 - (intOf i).toNat)
      case atStart => exact ⟨0, _, rfl, Nat.zero_le _, rfl, Q0.out, by rw [List.take_zero]; exact OwnQ.nil _ _, Lib.hid (fun j h => by omega), BO.out⟩
      case round =>
        obtain ⟨wp, rfl⟩ : ∃ wp : World, wp = wr := ⟨_, rfl⟩
        obtain ⟨t, v, rfl, ht1, rfl, hQ, hO, hD, hB⟩ := hrel
        have QP := Lib.hid hQ
        have OP := Lib.hid hO
        have BP := Lib.hid hB
        have szp := hB.size
        have pl := PL.out
        have ld : (L.drop t).length = n - t := by rw [List.length_drop]; omega
        have s1 : decide ((t : Int) ≤ n) = true := decide_eq_true (by omega)
        have s11 : decide (t ≤ n) = true := decide_eq_true ht1
        have W1 : IntKind.i64.wrap ((t : Int) + 1) = (t : Int) + 1 := IntWalk.i64_in _ (by omega)
        have HNO := Lib.hid (show ∀ g, v.ownBlock = some g → ¬ (w.heap.size ≤ g ∧ ¬ (v.ownBlock = some g)) from fun g e h => h.2 e)
        clear hQ hO hB Q0 BO
        go_wp2_with fail
        refine (popB QP.out now (by rw [ld]; omega)).mono ?_
        rintro e w2 ⟨rfl, q2, k2⟩
        have O2 := Lib.hid (show OwnQ w.heap.size w2 v (L.take t) from own_kp OP.out k2 HNO.out)
        have B2 := Lib.hid (BP.out.trans (k2.below szp))
        have sz2 := B2.out.size
        cases hdue : due now (L.drop t) with
        | true =>
          have htn : t < n := by
            rcases Nat.lt_or_eq_of_le ht1 with h | h
            · exact h
            · rw [List.drop_of_length_le (by omega)] at hdue; cases hdue
          have ed : L.drop t = gt L t :: L.drop (t + 1) := by rw [List.drop_eq_getElem_cons (by omega), gt_lt (by omega)]
          rw [show popL now (L.drop t) = L.drop (t + 1) by unfold popL; rw [hdue, if_pos rfl, ed]; rfl] at q2
          rw [show popV now (L.drop t) = .tuple #[.agg #[.int .i64 (gt L t).1, .int .i64 (gt L t).2], .bool true] by unfold popV; rw [hdue, if_pos rfl, ed]; rfl]
          have hle : (gt L t).1 ≤ now := by rw [ed] at hdue; exact of_decide_eq_true hdue
          have D2 := Lib.hid (show ∀ j, j < t + 1 → (gt L j).1 ≤ now from fun j hj => by
            rcases Nat.lt_or_eq_of_le (Nat.lt_succ_iff.1 hj) with h | h
            · exact hD.out j h
            · subst h; exact hle)
          have TK := Lib.hid (show L.take (t + 1) = L.take t ++ [gt L t] by rw [List.take_succ_eq_append_getElem (by omega), gt_lt (by omega)])
          have Q2 := Lib.hid q2
          clear q2 k2 hdue ed hle QP OP BP HNO
          generalize gt L t = x at *
          go_upto_region 15 with fail
          obtain ⟨w3, hw3⟩ : ∃ w3 : World, w3 = w2.alloc (.cells #[.int .i64 x.1, .int .i64 x.2] 70) := ⟨_, rfl⟩
          have b3 : Below w2.heap.size w2 w3 := hw3 ▸ below_alloc _ _
          have x0 : w3.cell? ⟨w2.heap.size, 0, none⟩ = some (.int .i64 x.1) := by rw [hw3]; simp
          have x1 : w3.cell? ⟨w2.heap.size, 1, none⟩ = some (.int .i64 x.2) := by rw [hw3]; simp
          have Q3 := Lib.hid (Q2.out.below b3)
          have O3 := Lib.hid (show OwnQ w.heap.size w3 v (L.take t) from row_on O2.out b3)
          have B3 := Lib.hid (B2.out.trans (b3.mono sz2))
          have sz3 := B3.out.size
          rw [← hw3]
          clear hw3 b3 Q2 O2 B2
          generalize w2.heap.size = p at *
          go_wp2_with (at_builtin; refine append_it rfl _ _ rfl v (L.take t) rfl O3.out sz3 x 1 rfl (by rw [List.length_take]; omega) ?_)
          intro v4 w4 ow4 k4 y4
          have O4 := Lib.hid (show OwnQ w.heap.size w4 v4 (L.take (t + 1)) by rw [TK.out]; exact ow4)
          have Q4 := Lib.hid (Q3.out.app k4 (fun k => v4.ownBlock = some k) y4)
          have B4 := Lib.hid (B3.out.trans (k4.below sz3 fun k e => (World.ownsRow.lt O3.out k e).1))
          clear ow4 k4 y4 Q3 O3 B3 x0 x1
          go_wp2
          go_roundw
          case rel => exact ⟨t + 1, v4, by go_num, by omega, rfl, Q4.out, O4.out, D2, B4.out⟩
          case measure => simp [intOf]; omega
        | false =>
          rw [show popL now (L.drop t) = L.drop t by unfold popL; rw [hdue]; rfl] at q2
          rw [show popV now (L.drop t) = .tuple #[.agg #[.int .i64 0, .int .i64 0], .bool false] by unfold popV; rw [hdue]; rfl]
          have SR : Srt (L.drop t) := PS.out.sublist (List.drop_sublist _ _)
          have LT := Lib.hid (left_late SR hdue)
          have ED := Lib.hid (List.take_append_drop t L)
          have LTK := Lib.hid (show (L.take t).length = t by rw [List.length_take]; omega)
          have UPS := Lib.hid (show ∀ j, 0 < j → j < t → ltB (gt (L.take t) j) (gt (L.take t) (j - 1)) = false from fun j h0 hj => by
            rw [gt_lt (by rw [List.length_take]; omega), gt_lt (by rw [List.length_take]; omega), List.getElem_take, List.getElem_take]
            exact List.pairwise_iff_getElem.1 PS.out _ _ _ _ (by omega))
          have DUE := Lib.hid (show ∀ j, j < t → (gt (L.take t) j).1 ≤ now from fun j hj => by
            have := hD.out j hj
            rw [gt_lt (by rw [List.length_take]; omega), List.getElem_take]
            rwa [gt_lt (by omega)] at this)
          have Q2 := Lib.hid q2
          clear q2 k2 hdue QP OP BP HNO SR hD
          generalize hP : L.take t = P at *
          generalize hR : L.drop t = R at *
          clear hP hR
          have lr := ld
          have lp := LTK.out
          go_upto_region 15 with fail
          obtain ⟨w3, hw3⟩ : ∃ w3 : World, w3 = w2.alloc (.cells #[.int .i64 0, .int .i64 0] 70) := ⟨_, rfl⟩
          have b3 : Below w2.heap.size w2 w3 := hw3 ▸ below_alloc _ _
          have Q3 := Lib.hid (Q2.out.below b3)
          have O3 := Lib.hid (show OwnQ w.heap.size w3 v P from row_on O2.out b3)
          have B3 := Lib.hid (B2.out.trans (b3.mono sz2))
          rw [← hw3]
          clear hw3 b3 Q2 O2 B2
          go_wp2_with fail
          refine (listB Q3.out (by omega)).mono ?_
          rintro e w4 ⟨A4, c4, rfl, S4, -, -, b4⟩
          have S4H := Lib.hid S4
          have O4 := Lib.hid (show OwnQ w.heap.size w4 v P from row_on O3.out b4)
          have B4 := Lib.hid (B3.out.trans (b4.mono B3.out.size))
          have sz4 := B4.out.size
          clear S4 b4 Q3 O3 B3
          obtain ⟨A5, c5, hv, s5, l5⟩ := O4.out.sp
          subst hv
          have S5H := Lib.hid s5
          clear s5
          rw [lp] at O4 S5H l5 ⊢
          rw [lr] at S4H ⊢
          have hmb : n - t ≤ 300 := by omega
          generalize n - t = m at *
          go_wp2_with fail
          go_loopw [12] (fun i wr => ∃ j : Nat, i = .int .i64 j ∧ j ≤ t ∧ Below w4.heap.size w4 wr) (fun i _ => t - (intOf i).toNat)
          case atStart => exact ⟨0, rfl, Nat.zero_le _, Below.refl _ _⟩
          case round =>
            obtain ⟨wi, rfl⟩ : ∃ wi : World, wi = wr := ⟨_, rfl⟩
            obtain ⟨j, rfl, hj, hI⟩ := hrel
            have II := Lib.hid hI
            by_cases hl3 : j < t
            · have s2 : decide ((j : Int) < t) = true := decide_eq_true (by omega)
              have s22 : decide (j < t) = true := decide_eq_true hl3
              have i6 : (j : Int) < t := by omega
              have W2 : IntKind.i64.wrap ((j : Int) + 1) = (j : Int) + 1 := IntWalk.i64_in _ (by omega)
              obtain ⟨b5, o5, rfl, hl5, hc5⟩ := S5H.out.2 (by omega)
              obtain ⟨x0, x1⟩ := hc5 j hl3
              replace x0 := (hI.cell (p := ⟨b5, _, none⟩) hl5).trans x0
              replace x1 := (hI.cell (p := ⟨b5, _, none⟩) hl5).trans x1
              have du := DUE.out j hl3
              have s3 : decide (now < (gt P j).1) = false := decide_eq_false (by omega)
              rcases Nat.eq_zero_or_pos j with rfl | jp
              · clear hc5 hI du
                simp only [Nat.zero_mul, Nat.add_zero] at x0 x1
                generalize gt P 0 = x at *
                go_wp2
                refine wp_region_quiet_lit (by kernel_rfl) (by kernel_rfl) ?_
                try simp only [List.append]
                repeat (go_big_quiet_step (fail))
                refine wpQuiet_nil ?_
                intro _ hw'
                obtain ⟨nq, hw''⟩ := hw'
                subst hw''
                go_wp2
                go_roundw
                case rel => exact ⟨1, rfl, by omega, II.out.trans (below_drewN _ _ _)⟩
                case measure => simp [intOf]; omega
              · have up := UPS.out j jp hl3
                rw [ltB_f] at up
                obtain ⟨j0, hj0⟩ : ∃ j', j = j' + 1 := ⟨j - 1, by omega⟩
                have ej : j - 1 = j0 := by omega
                rw [ej] at up
                obtain ⟨y0, y1⟩ := hc5 j0 (by omega)
                replace y0 := (hI.cell (p := ⟨b5, _, none⟩) hl5).trans y0
                replace y1 := (hI.cell (p := ⟨b5, _, none⟩) hl5).trans y1
                have W3 : IntKind.i64.wrap ((j : Int) - 1) = (j0 : Int) := by rw [show (j : Int) - 1 = (j0 : Int) from by omega]; exact IntWalk.i64_in _ (by omega)
                have j1 : (j0 : Int) < t := by omega
                have j4 : j0 < t := by omega
                have j5 : decide ((0 : Int) < (j : Int)) = true := decide_eq_true (by omega)
                have j6 : decide (0 < j) = true := decide_eq_true (by omega)
                clear hc5 hI du ej hj0
                generalize gt P j = x at *
                generalize gt P j0 = y at *
                have s4 : decide (x.1 < y.1) = false := decide_eq_false (by omega)
                by_cases he : x.1 = y.1
                · have s5 : ((x.1 : Int) == y.1) = true := by rw [beq_iff_eq]; exact he
                  have s6 : decide (x.2 < y.2) = false := decide_eq_false (by omega)
                  clear up
                  generalize x.1 = xa at *
                  generalize y.1 = ya at *
                  clear he
                  go_wp2
                  refine wp_region_quiet_lit (by kernel_rfl) (by kernel_rfl) ?_
                  try simp only [List.append]
                  repeat (go_big_quiet_step (fail))
                  refine wpQuiet_nil ?_
                  intro _ hw'
                  obtain ⟨nq, hw''⟩ := hw'
                  subst hw''
                  go_wp2
                  go_roundw
                  case rel => exact ⟨j + 1, by go_num, by omega, II.out.trans (below_drewN _ _ _)⟩
                  case measure => simp [intOf]; omega
                · have s5 : ((x.1 : Int) == y.1) = false := by rw [beq_eq_false_iff_ne]; exact he
                  clear up he
                  go_wp2
                  refine wp_region_quiet_lit (by kernel_rfl) (by kernel_rfl) ?_
                  try simp only [List.append]
                  repeat (go_big_quiet_step (fail))
                  refine wpQuiet_nil ?_
                  intro _ hw'
                  obtain ⟨nq, hw''⟩ := hw'
                  subst hw''
                  go_wp2
                  go_roundw
                  case rel => exact ⟨j + 1, by go_num, by omega, II.out.trans (below_drewN _ _ _)⟩
                  case measure => simp [intOf]; omega
            · obtain rfl : t = j := by omega
              have s2 : decide ((t : Int) < t) = false := decide_eq_false (by omega)
              have s22 : decide (t < t) = false := decide_eq_false (by omega)
              clear hI
              go_wp2_with fail
              go_loopw [13] (fun i wr => ∃ j : Nat, i = .int .i64 j ∧ j ≤ m ∧ Below wi.heap.size wi wr) (fun i _ => m - (intOf i).toNat)
              case atStart => exact ⟨0, rfl, Nat.zero_le _, Below.refl _ _⟩
              case round =>
                obtain ⟨wl, rfl⟩ : ∃ wl : World, wl = wr := ⟨_, rfl⟩
                obtain ⟨j, rfl, hj, hJ⟩ := hrel
                have JJ := Lib.hid (II.out.trans (hJ.mono II.out.size))
                have HJ := Lib.hid hJ
                by_cases hl4 : j < m
                · have s3 : decide ((j : Int) < m) = true := decide_eq_true (by omega)
                  have s33 : decide (j < m) = true := decide_eq_true hl4
                  have i6 : (j : Int) < m := by omega
                  have W2 : IntKind.i64.wrap ((j : Int) + 1) = (j : Int) + 1 := IntWalk.i64_in _ (by omega)
                  obtain ⟨b5, o5, rfl, hl5, hc5⟩ := S4H.out.2 (by omega)
                  obtain ⟨x0, -⟩ := hc5 j hl4
                  replace x0 := (JJ.out.cell (p := ⟨b5, _, none⟩) hl5).trans x0
                  have lt := LT.out j (by omega)
                  clear hc5 hJ
                  generalize (gt R j).1 = xa at *
                  have s4 : decide (xa ≤ now) = false := decide_eq_false (by omega)
                  go_wp2
                  go_roundw
                  case rel => exact ⟨j + 1, by go_num, by omega, HJ.out⟩
                  case measure => simp [intOf]; omega
                · obtain rfl : m = j := by omega
                  have s3 : decide ((m : Int) < m) = false := decide_eq_false (by omega)
                  have s33 : decide (m < m) = false := decide_eq_false (by omega)
                  have O6 := Lib.hid (show OwnQ w.heap.size wl (.slice A5 t c5) P from row_on O4.out JJ.out)
                  have S6 := Lib.hid (S4H.out.below JJ.out)
                  have B6 := Lib.hid (B4.out.trans (JJ.out.mono sz4))
                  have sz6 := B6.out.size
                  have lPR : P.length + R.length = n := by rw [← PL.out, ← ED.out, List.length_append]
                  clear hJ HJ JJ II O4 S4H S5H B4
                  go_upto_region 28 with fail
                  go_cut [14] from 144 to 146 (fun v wx => Hid (∃ A8 c8, v = .slice A8 n c8 ∧ SpAt wx A8 n L ∧ Below w.heap.size w wx))
                  case first =>
                    cases A4 with
                    | none =>
                      have hm0 : m = 0 := by
                        rcases Nat.eq_zero_or_pos m with h | h
                        · exact h
                        · obtain ⟨b', o', e', -⟩ := S6.out.2 h
                          cases e'
                      have hR0 : R = [] := List.length_eq_zero_iff.1 (by omega)
                      have EL : P = L := by have := ED.out; rwa [hR0, List.append_nil] at this
                      have etn : t = n := by rw [hR0] at lPR; simp at lPR; omega
                      obtain ⟨A8, c8, hv, s8, l8⟩ := O6.out.sp
                      injection hv with h1 h2 h3
                      subst h1 h3
                      have FN := Lib.hid (show ∃ A8 c8, Value.slice A5 t c5 = .slice A8 n c8 ∧ SpAt wl A8 n L ∧ Below w.heap.size w wl from ⟨A5, c5, by rw [etn], by rw [← EL, ← etn]; rw [lp] at s8; exact s8, B6.out⟩)
                      have l9 : t ≤ c5 := by omega
                      clear EL etn s8 hR0 h2
                      subst hm0
                      go_wp2_with (at_builtin; refine append_none rfl _ _ rfl A5 t c5 c4 rfl rfl l9 ?_)
                      go_wp2
                      go_meet
                      exact FN
                    | some ad =>
                      go_wp2_with (at_builtin; refine append_its rfl _ _ rfl _ P rfl O6.out sz6 ad m c4 R S6.out rfl (by omega) ?_)
                      intro v8 w8 ow8 hb8
                      obtain ⟨A8, c8, rfl, s8, l8⟩ := (show OwnQ w.heap.size w8 v8 (P ++ R) from ow8).sp
                      have FN := Lib.hid (show ∃ A9 c9, Value.slice A8 (P ++ R).length c8 = .slice A9 n c9 ∧ SpAt w8 A9 n L ∧ Below w.heap.size w w8 from ⟨A8, c8, by rw [List.length_append, lPR], by rw [ED.out, PL.out] at s8; exact s8, B6.out.trans (hb8.mono (Nat.le_refl _))⟩)
                      clear ow8 hb8 s8 l8
                      go_wp2
                      go_meet
                      exact FN
                  case rest =>
                    obtain ⟨w8, rfl⟩ : ∃ w8 : World, w8 = wc := ⟨_, rfl⟩
                    obtain ⟨A8, c8, rfl, s8, b8⟩ := hcut.out
                    have S8 := Lib.hid s8
                    have B8 := Lib.hid b8
                    have sz8 := b8.size
                    have CS := Lib.hid (fun x => by
                      have := cntG_same PP.out x
                      rwa [← LN.out] at this)
                    clear hcut s8 b8 O6 S6 B6
                    go_wp2_with fail
                    go_loopw [15] (fun i wr => ∃ i0 : Nat, i = .int .i64 i0 ∧ i0 ≤ n ∧ Below w8.heap.size w8 wr) (fun i _ => n - (intOf i).toNat)
                    case atStart => exact ⟨0, rfl, Nat.zero_le _, Below.refl _ _⟩
                    case round =>
                      obtain ⟨wu, rfl⟩ : ∃ wu : World, wu = wr := ⟨_, rfl⟩
                      obtain ⟨i0, rfl, hi0, hU⟩ := hrel
                      have UU := Lib.hid hU
                      clear hU
                      by_cases hl6 : i0 < n
                      · have s4 : decide ((i0 : Int) < n) = true := decide_eq_true (by omega)
                        have s44 : decide (i0 < n) = true := decide_eq_true hl6
                        have i7 : (i0 : Int) < n := by omega
                        have W4 : IntKind.i64.wrap ((i0 : Int) + 1) = (i0 : Int) + 1 := IntWalk.i64_in _ (by omega)
                        go_wp2_with fail
                        go_loopw [16, 17, 18] (fun a b i wr => ∃ k : Nat, i = .int .i64 k ∧ k ≤ n ∧ a = .int .i64 (cntG (fun j => itOf (gt ops j)) (itOf (gt ops i0)) k : Nat) ∧ b = .int .i64 (cntG (gt L) (itOf (gt ops i0)) k : Nat) ∧ Below w8.heap.size w8 wr) (fun _ _ i _ => n - (intOf i).toNat)
                        case atStart => exact ⟨0, rfl, Nat.zero_le _, rfl, rfl, UU.out⟩
                        case round =>
                          obtain ⟨wv, rfl⟩ : ∃ wv : World, wv = wr := ⟨_, rfl⟩
                          obtain ⟨k, rfl, hk, rfl, rfl, hV⟩ := hrel
                          have VV := Lib.hid hV
                          have BV := Lib.hid (B8.out.trans (hV.mono sz8))
                          by_cases hl7 : k < n
                          · have s5 : decide ((k : Int) < n) = true := decide_eq_true (by omega)
                            have s55 : decide (k < n) = true := decide_eq_true hl7
                            have i8 : (k : Int) < n := by omega
                            have W5 : IntKind.i64.wrap ((k : Int) + 1) = (k : Int) + 1 := IntWalk.i64_in _ (by omega)
                            obtain ⟨bq, oq, rfl, hlq, hcq⟩ := HA.out.2 (by omega)
                            obtain ⟨-, c1, c2⟩ := hcq k hl7
                            obtain ⟨-, d1, d2⟩ := hcq i0 hl6
                            replace c1 := (BV.out.cell (p := ⟨bq, _, none⟩) hlq).trans c1
                            replace c2 := (BV.out.cell (p := ⟨bq, _, none⟩) hlq).trans c2
                            replace d1 := (BV.out.cell (p := ⟨bq, _, none⟩) hlq).trans d1
                            replace d2 := (BV.out.cell (p := ⟨bq, _, none⟩) hlq).trans d2
                            obtain ⟨b9, o9, rfl, hl9, hc9⟩ := S8.out.2 (by omega)
                            obtain ⟨e1, e2⟩ := hc9 k hl7
                            replace e1 := (hV.cell (p := ⟨b9, _, none⟩) hl9).trans e1
                            replace e2 := (hV.cell (p := ⟨b9, _, none⟩) hl9).trans e2
                            have E1 := Lib.hid (show cntG (fun j => itOf (gt ops j)) (itOf (gt ops i0)) (k + 1) = cntG (fun j => itOf (gt ops j)) (itOf (gt ops i0)) k + (if ((gt ops k).1.2, (gt ops k).2) = ((gt ops i0).1.2, (gt ops i0).2) then 1 else 0) from rfl)
                            have E2 := Lib.hid (show cntG (gt L) (itOf (gt ops i0)) (k + 1) = cntG (gt L) (itOf (gt ops i0)) k + (if ((gt L k).1, (gt L k).2) = ((gt ops i0).1.2, (gt ops i0).2) then 1 else 0) from rfl)
                            have m1 := cntG_le (fun j => itOf (gt ops j)) (itOf (gt ops i0)) k
                            have m2 := cntG_le (gt L) (itOf (gt ops i0)) k
                            clear hcq hc9 hV BV
                            generalize cntG (fun j => itOf (gt ops j)) (itOf (gt ops i0)) k = ca at *
                            generalize cntG (gt L) (itOf (gt ops i0)) k = cb at *
                            generalize (gt ops k).1.2 = ka at *
                            generalize (gt ops k).2 = kb at *
                            generalize (gt ops i0).1.2 = ia at *
                            generalize (gt ops i0).2 = ib at *
                            generalize (gt L k).1 = la at *
                            generalize (gt L k).2 = lb at *
                            have V1 : IntKind.i64.wrap ((ca : Int) + 1) = ((ca + 1 : Nat) : Int) := by rw [IntWalk.i64_in _ (by omega)]; omega
                            have V2 : IntKind.i64.wrap ((cb : Int) + 1) = ((cb + 1 : Nat) : Int) := by rw [IntWalk.i64_in _ (by omega)]; omega
                            by_cases h1 : ka = ia
                            · have u1 : ((ka : Int) == ia) = true := by rw [beq_iff_eq]; exact h1
                              by_cases h2 : kb = ib
                              · have u2 : ((kb : Int) == ib) = true := by rw [beq_iff_eq]; exact h2
                                have F1 := Lib.hid (show cntG (fun j => itOf (gt ops j)) (itOf (gt ops i0)) (k + 1) = ca + 1 from by rw [E1.out, if_pos (by rw [h1, h2])])
                                clear h1 h2
                                by_cases h3 : la = ia
                                · have v1 : ((la : Int) == ia) = true := by rw [beq_iff_eq]; exact h3
                                  by_cases h4 : lb = ib
                                  · have v2 : ((lb : Int) == ib) = true := by rw [beq_iff_eq]; exact h4
                                    have F2 := Lib.hid (show cntG (gt L) (itOf (gt ops i0)) (k + 1) = cb + 1 from by rw [E2.out, if_pos (by rw [h3, h4])])
                                    clear h3 h4
                                    clear E1 E2
                                    go_wp2
                                    go_big_quiet (fail)
                                    go_wp2
                                    go_big_quiet (fail)
                                    go_wp2
                                    go_roundw
                                    case rel => exact ⟨k + 1, by go_num, by omega, by rw [F1.out]; simp, by rw [F2.out]; simp, VV.out.trans (by first | exact below_drewN _ _ _ | exact (below_drewN _ _ _).trans (below_drewN _ _ _))⟩
                                    case measure => simp [intOf]; omega
                                  · have v2 : ((lb : Int) == ib) = false := by rw [beq_eq_false_iff_ne]; exact h4
                                    have F2 := Lib.hid (show cntG (gt L) (itOf (gt ops i0)) (k + 1) = cb from by rw [E2.out, if_neg (fun h => h4 (Prod.mk.inj h).2), Nat.add_zero])
                                    clear h3 h4
                                    clear E1 E2
                                    go_wp2
                                    go_big_quiet (fail)
                                    go_wp2
                                    go_big_quiet (fail)
                                    go_wp2
                                    go_roundw
                                    case rel => exact ⟨k + 1, by go_num, by omega, by rw [F1.out]; simp, by rw [F2.out], VV.out.trans (by first | exact below_drewN _ _ _ | exact (below_drewN _ _ _).trans (below_drewN _ _ _))⟩
                                    case measure => simp [intOf]; omega
                                · have v1 : ((la : Int) == ia) = false := by rw [beq_eq_false_iff_ne]; exact h3
                                  have F2 := Lib.hid (show cntG (gt L) (itOf (gt ops i0)) (k + 1) = cb from by rw [E2.out, if_neg (fun h => h3 (Prod.mk.inj h).1), Nat.add_zero])
                                  clear h3
                                  clear E1 E2
                                  go_wp2
                                  go_big_quiet (fail)
                                  go_wp2
                                  go_big_quiet (fail)
                                  go_wp2
                                  go_roundw
                                  case rel => exact ⟨k + 1, by go_num, by omega, by rw [F1.out]; simp, by rw [F2.out], VV.out.trans (by first | exact below_drewN _ _ _ | exact (below_drewN _ _ _).trans (below_drewN _ _ _))⟩
                                  case measure => simp [intOf]; omega
                              · have u2 : ((kb : Int) == ib) = false := by rw [beq_eq_false_iff_ne]; exact h2
                                have F1 := Lib.hid (show cntG (fun j => itOf (gt ops j)) (itOf (gt ops i0)) (k + 1) = ca from by rw [E1.out, if_neg (fun h => h2 (Prod.mk.inj h).2), Nat.add_zero])
                                clear h1 h2
                                by_cases h3 : la = ia
                                · have v1 : ((la : Int) == ia) = true := by rw [beq_iff_eq]; exact h3
                                  by_cases h4 : lb = ib
                                  · have v2 : ((lb : Int) == ib) = true := by rw [beq_iff_eq]; exact h4
                                    have F2 := Lib.hid (show cntG (gt L) (itOf (gt ops i0)) (k + 1) = cb + 1 from by rw [E2.out, if_pos (by rw [h3, h4])])
                                    clear h3 h4
                                    clear E1 E2
                                    go_wp2
                                    go_big_quiet (fail)
                                    go_wp2
                                    go_big_quiet (fail)
                                    go_wp2
                                    go_roundw
                                    case rel => exact ⟨k + 1, by go_num, by omega, by rw [F1.out], by rw [F2.out]; simp, VV.out.trans (by first | exact below_drewN _ _ _ | exact (below_drewN _ _ _).trans (below_drewN _ _ _))⟩
                                    case measure => simp [intOf]; omega
                                  · have v2 : ((lb : Int) == ib) = false := by rw [beq_eq_false_iff_ne]; exact h4
                                    have F2 := Lib.hid (show cntG (gt L) (itOf (gt ops i0)) (k + 1) = cb from by rw [E2.out, if_neg (fun h => h4 (Prod.mk.inj h).2), Nat.add_zero])
                                    clear h3 h4
                                    clear E1 E2
                                    go_wp2
                                    go_big_quiet (fail)
                                    go_wp2
                                    go_big_quiet (fail)
                                    go_wp2
                                    go_roundw
                                    case rel => exact ⟨k + 1, by go_num, by omega, by rw [F1.out], by rw [F2.out], VV.out.trans (by first | exact below_drewN _ _ _ | exact (below_drewN _ _ _).trans (below_drewN _ _ _))⟩
                                    case measure => simp [intOf]; omega
                                · have v1 : ((la : Int) == ia) = false := by rw [beq_eq_false_iff_ne]; exact h3
                                  have F2 := Lib.hid (show cntG (gt L) (itOf (gt ops i0)) (k + 1) = cb from by rw [E2.out, if_neg (fun h => h3 (Prod.mk.inj h).1), Nat.add_zero])
                                  clear h3
                                  clear E1 E2
                                  go_wp2
                                  go_big_quiet (fail)
                                  go_wp2
                                  go_big_quiet (fail)
                                  go_wp2
                                  go_roundw
                                  case rel => exact ⟨k + 1, by go_num, by omega, by rw [F1.out], by rw [F2.out], VV.out.trans (by first | exact below_drewN _ _ _ | exact (below_drewN _ _ _).trans (below_drewN _ _ _))⟩
                                  case measure => simp [intOf]; omega
                            · have u1 : ((ka : Int) == ia) = false := by rw [beq_eq_false_iff_ne]; exact h1
                              have F1 := Lib.hid (show cntG (fun j => itOf (gt ops j)) (itOf (gt ops i0)) (k + 1) = ca from by rw [E1.out, if_neg (fun h => h1 (Prod.mk.inj h).1), Nat.add_zero])
                              clear h1
                              by_cases h3 : la = ia
                              · have v1 : ((la : Int) == ia) = true := by rw [beq_iff_eq]; exact h3
                                by_cases h4 : lb = ib
                                · have v2 : ((lb : Int) == ib) = true := by rw [beq_iff_eq]; exact h4
                                  have F2 := Lib.hid (show cntG (gt L) (itOf (gt ops i0)) (k + 1) = cb + 1 from by rw [E2.out, if_pos (by rw [h3, h4])])
                                  clear h3 h4
                                  clear E1 E2
                                  go_wp2
                                  go_big_quiet (fail)
                                  go_wp2
                                  go_big_quiet (fail)
                                  go_wp2
                                  go_roundw
                                  case rel => exact ⟨k + 1, by go_num, by omega, by rw [F1.out], by rw [F2.out]; simp, VV.out.trans (by first | exact below_drewN _ _ _ | exact (below_drewN _ _ _).trans (below_drewN _ _ _))⟩
                                  case measure => simp [intOf]; omega
                                · have v2 : ((lb : Int) == ib) = false := by rw [beq_eq_false_iff_ne]; exact h4
                                  have F2 := Lib.hid (show cntG (gt L) (itOf (gt ops i0)) (k + 1) = cb from by rw [E2.out, if_neg (fun h => h4 (Prod.mk.inj h).2), Nat.add_zero])
                                  clear h3 h4
                                  clear E1 E2
                                  go_wp2
                                  go_big_quiet (fail)
                                  go_wp2
                                  go_big_quiet (fail)
                                  go_wp2
                                  go_roundw
                                  case rel => exact ⟨k + 1, by go_num, by omega, by rw [F1.out], by rw [F2.out], VV.out.trans (by first | exact below_drewN _ _ _ | exact (below_drewN _ _ _).trans (below_drewN _ _ _))⟩
                                  case measure => simp [intOf]; omega
                              · have v1 : ((la : Int) == ia) = false := by rw [beq_eq_false_iff_ne]; exact h3
                                have F2 := Lib.hid (show cntG (gt L) (itOf (gt ops i0)) (k + 1) = cb from by rw [E2.out, if_neg (fun h => h3 (Prod.mk.inj h).1), Nat.add_zero])
                                clear h3
                                clear E1 E2
                                go_wp2
                                go_big_quiet (fail)
                                go_wp2
                                go_big_quiet (fail)
                                go_wp2
                                go_roundw
                                case rel => exact ⟨k + 1, by go_num, by omega, by rw [F1.out], by rw [F2.out], VV.out.trans (by first | exact below_drewN _ _ _ | exact (below_drewN _ _ _).trans (below_drewN _ _ _))⟩
                                case measure => simp [intOf]; omega
                          · obtain rfl : n = k := by omega
                            have s5 : decide ((n : Int) < n) = false := decide_eq_false (by omega)
                            have s55 : decide (n < n) = false := decide_eq_false (by omega)
                            rw [CS.out]
                            clear hV
                            generalize cntG (gt L) (itOf (gt ops i0)) n = cb at *
                            go_wp2
                            go_roundw
                            case rel => exact ⟨i0 + 1, by go_num, by omega, VV.out⟩
                            case measure => simp [intOf]; omega
                      · obtain rfl : n = i0 := by omega
                        have s4 : decide ((n : Int) < n) = false := decide_eq_false (by omega)
                        have s44 : decide (n < n) = false := decide_eq_false (by omega)
                        have BZ := Lib.hid (B8.out.trans (UU.out.mono sz8))
                        have szz := BZ.out.size
                        go_wp2_with fail
                        refine (first11 _).mono ?_
                        rintro e wz ⟨rfl, bz⟩
                        have BE := Lib.hid (BZ.out.trans (bz.mono szz))
                        clear bz
                        go_wp2_with fail
                        go_ret
                        exact ⟨rfl, BE.out⟩
end Go.Proofs.Ytjodhfehfpmfaaa.Ti
