/- The walk of voklaw11.TimerHeads. -/
import Derived.Test.YtjodhfehfpmfaaaTiPu
set_option linter.unusedVariables false
namespace Go.Proofs.Ytjodhfehfpmfaaa.Ti
open Go.RowKit Iv

set_option maxRecDepth 100000 in
set_option maxHeartbeats 16000000 in
theorem heads_walk (w : World) (A : Option Addr) (n c : Nat) (ops : List Tg) (hA : TgAt w A n ops) (hm : n ≤ 9223372036854775807) :
    Calls Try.prog 11 #[.slice A n c] w fun e w' => e = .returned (.bool true) ∧ Below w.heap.size w w' := by
  have HA := Lib.hid hA
  have LN := Lib.hid hA.1
  clear hA
  go_enter Try.func11, Try.ntmps11
  go_wp2_with fail
  refine (first11 _).mono ?_
  rintro e w0 ⟨rfl, b0⟩
  have B0 := Lib.hid b0
  have sz0 := b0.size
  clear b0
  go_wp2_with fail
  refine (newB w0 w.heap.size sz0).mono ?_
  rintro e w1 ⟨rfl, q1, b1⟩
  generalize w0.heap.size = q at *
  have Q1 := Lib.hid q1
  have B1 := Lib.hid (B0.out.trans (b1.mono sz0))
  clear q1 b1 B0
  by_cases hb : 300 < n
  · have s1 : decide (300 < n) = true := decide_eq_true hb
    have s2 : decide ((300 : Int) < n) = true := decide_eq_true (by omega)
    go_wp2_with fail
    refine (first11 _).mono ?_
    rintro e wz ⟨rfl, bz⟩
    have BZ := Lib.hid (B1.out.trans (bz.mono B1.out.size))
    clear bz
    go_wp2_with fail
    go_ret
    exact ⟨rfl, BZ.out⟩
  have s1 : decide (300 < n) = false := decide_eq_false hb
  have s2 : decide ((300 : Int) < n) = false := decide_eq_false (by omega)
  go_wp2_with fail
  go_loopw [4] (fun i wr => ∃ t : Nat, i = .int .i64 t ∧ t ≤ n ∧ QB wr q (pushN ops t) w.heap.size (fun _ => False) ∧ Below w.heap.size w wr) (fun i _ => n - (intOf i).toNat)
  case atStart => exact ⟨0, rfl, Nat.zero_le _, Q1.out, B1.out⟩
  case round =>
    obtain ⟨wo, rfl⟩ : ∃ wo : World, wo = wr := ⟨_, rfl⟩
    obtain ⟨t, rfl, ht, hQ, hB⟩ := hrel
    have QO := Lib.hid hQ
    have BO := Lib.hid hB
    have szo := hB.size
    clear hQ hB Q1 B1
    by_cases hlt : t < n
    · have s0 : decide ((t : Int) < n) = true := decide_eq_true (by omega)
      have s00 : decide (t < n) = true := decide_eq_true hlt
      have i5 : (t : Int) < n := by omega
      have W1 : IntKind.i64.wrap ((t : Int) + 1) = (t : Int) + 1 := IntWalk.i64_in _ (by omega)
      have LE := Lib.hid (pushN_len ops t)
      have BD := Lib.hid (BO.out.trans ((Below.refl wo.heap.size wo).drew.mono szo))
      have QD := Lib.hid (QO.out.below ((Below.refl wo.heap.size wo).drew))
      have PS := Lib.hid (pushN_srt ops (t + 1))
      have PM := Lib.hid (fun x => pushN_mem (ops := ops) (t := t + 1) (x := x) (by rw [← LN.out]; exact hlt))
      have PL := Lib.hid (pushN_len ops (t + 1))
      have PE := Lib.hid (show pushN ops (t + 1) = insL ((gt ops t).1.2, (gt ops t).2) (pushN ops t) from rfl)
      obtain ⟨bq, oq, rfl, hlq, hcq⟩ := HA.out.2 (by omega)
      have hcq2 := Lib.hid hcq
      obtain ⟨-, c1, c2⟩ := hcq t (by omega)
      replace c1 := (BO.out.cell (p := ⟨bq, _, none⟩) hlq).trans c1
      replace c2 := (BO.out.cell (p := ⟨bq, _, none⟩) hlq).trans c2
      clear hcq
      go_wp2_with fail
      go_still_tail 11, (by kernel_rfl)
      change wpList _ _ _ _ _ wo.drew
      generalize wo.drew = wd at *
      have szd := BD.out.size
      go_wp2_with fail
      refine (pushB QD.out (gt ops t).1.2 (gt ops t).2 (by rw [LE.out]; omega)).mono ?_
      rintro e w2 ⟨rfl, q2, k2⟩
      rw [← PE.out] at q2
      have Q2 := Lib.hid q2
      have B2 := Lib.hid (BD.out.trans (k2.below szd))
      have sz2 := B2.out.size
      clear q2 k2 QD BD QO BO c1 c2
      obtain ⟨L, hL⟩ : ∃ L, pushN ops (t + 1) = L := ⟨_, rfl⟩
      rw [hL] at Q2 PS PM PL PE
      have PX := Lib.hid hL
      clear hL
      cases L with
      | nil => exact absurd PL.out (by simp)
      | cons a L =>
        go_wp2_with fail
        refine (nextB Q2.out).mono ?_
        rintro e w3 ⟨rfl, b3⟩
        have Q3 := Lib.hid (Q2.out.below b3)
        have B3 := Lib.hid (B2.out.trans (b3.mono sz2))
        clear b3
        unfold headV
        go_upto_region 11 with fail
        obtain ⟨w4, hw4⟩ : ∃ w4 : World, w4 = w3.alloc (.cells #[.int .i64 a.1, .int .i64 a.2] 70) := ⟨_, rfl⟩
        have b4 : Below w3.heap.size w3 w4 := hw4 ▸ below_alloc _ _
        have x0 : w4.cell? ⟨w3.heap.size, 0, none⟩ = some (.int .i64 a.1) := by rw [hw4]; simp
        have x1 : w4.cell? ⟨w3.heap.size, 1, none⟩ = some (.int .i64 a.2) := by rw [hw4]; simp
        have y4 : w3.heap.size < w4.heap.size := by rw [hw4]; simp
        have Q4 := Lib.hid (Q3.out.below b4)
        have B4 := Lib.hid (B3.out.trans (b4.mono B3.out.size))
        have sz4 := B4.out.size
        rw [← hw4]
        clear hw4 b4 Q3 B3 Q2 B2
        generalize w3.heap.size = p at *
        have W2 := Lib.hid (show ∀ v, Below w4.heap.size w4 v → v.cell? ⟨p, 0, none⟩ = some (.int .i64 a.1) ∧ v.cell? ⟨p, 1, none⟩ = some (.int .i64 a.2) from fun v hv => ⟨(hv.cell (p := ⟨p, 0, none⟩) y4).trans x0, (hv.cell (p := ⟨p, 1, none⟩) y4).trans x1⟩)
        clear x0 x1
        go_wp2_with fail
        go_loopw [7, 8] (fun m i wr => ∃ k : Nat, i = .int .i64 k ∧ k ≤ t + 1 ∧ m = .bool (metB ops a k) ∧ Below w4.heap.size w4 wr) (fun _ i _ => t + 1 - (intOf i).toNat)
        case atStart => exact ⟨0, rfl, Nat.zero_le _, rfl, Below.refl _ _⟩
        case round =>
          obtain ⟨wi, rfl⟩ : ∃ wi : World, wi = wr := ⟨_, rfl⟩
          obtain ⟨k, rfl, hk, rfl, hI⟩ := hrel
          by_cases hkt : k ≤ t
          · have s3 : decide ((k : Int) ≤ t) = true := decide_eq_true (by omega)
            have s33 : decide (k ≤ t) = true := decide_eq_true hkt
            have i6 : (k : Int) < n := by omega
            have W3 : IntKind.i64.wrap ((k : Int) + 1) = (k : Int) + 1 := IntWalk.i64_in _ (by omega)
            have BI := Lib.hid (B4.out.trans (hI.mono sz4))
            obtain ⟨-, d1, d2⟩ := hcq2.out k (by omega)
            replace d1 := (BI.out.cell (p := ⟨bq, _, none⟩) hlq).trans d1
            replace d2 := (BI.out.cell (p := ⟨bq, _, none⟩) hlq).trans d2
            obtain ⟨x0, x1⟩ := W2.out wi hI
            have ge := srt_head PS.out ((PM.out _).2 ⟨k, by omega, rfl⟩)
            have ST := Lib.hid (show metB ops a (k + 1) = (metB ops a k || (decide ((gt ops k).1.2 = a.1) && decide ((gt ops k).2 = a.2))) from rfl)
            rw [ltB_f] at ge
            simp only [itOf] at ge
            generalize (gt ops k).1.2 = ya at *
            generalize (gt ops k).2 = yb at *
            generalize a.1 = xa at *
            generalize a.2 = xb at *
            have II := Lib.hid hI
            clear hI
            have s4 : decide (ya < xa) = false := decide_eq_false (by omega)
            generalize metB ops a k = mb at *
            by_cases h1 : ya = xa
            · have s5 : ((ya : Int) == xa) = true := by rw [beq_iff_eq]; exact h1
              have s6 : decide (yb < xb) = false := decide_eq_false (by omega)
              have e1 : decide (ya = xa) = true := decide_eq_true h1
              by_cases h2 : yb = xb
              · have s7 : ((yb : Int) == xb) = true := by rw [beq_iff_eq]; exact h2
                have E := Lib.hid (show metB ops a (k + 1) = true by rw [ST.out, e1, decide_eq_true h2]; simp)
                clear h1 h2 ge e1 ST
                cases mb
                · go_wp2
                  go_big_quiet (fail)
                  go_wp2
                  go_big_quiet (fail)
                  go_wp2
                  go_roundw
                  case rel => exact ⟨k + 1, by go_num, by omega, by rw [E.out], II.out.trans (by first | exact below_drewN _ _ _ | exact (below_drewN _ _ _).trans (below_drewN _ _ _))⟩
                  case measure => simp [intOf]; omega
                · go_wp2
                  go_big_quiet (fail)
                  go_wp2
                  go_big_quiet (fail)
                  go_wp2
                  go_roundw
                  case rel => exact ⟨k + 1, by go_num, by omega, by rw [E.out], II.out.trans (by first | exact below_drewN _ _ _ | exact (below_drewN _ _ _).trans (below_drewN _ _ _))⟩
                  case measure => simp [intOf]; omega
              · have s7 : ((yb : Int) == xb) = false := by rw [beq_eq_false_iff_ne]; exact h2
                have E := Lib.hid (show metB ops a (k + 1) = mb by rw [ST.out, e1, decide_eq_false h2]; simp)
                clear h1 h2 ge e1 ST
                cases mb
                · go_wp2
                  go_big_quiet (fail)
                  go_wp2
                  go_big_quiet (fail)
                  go_wp2
                  go_roundw
                  case rel => exact ⟨k + 1, by go_num, by omega, by rw [E.out], II.out.trans (by first | exact below_drewN _ _ _ | exact (below_drewN _ _ _).trans (below_drewN _ _ _))⟩
                  case measure => simp [intOf]; omega
                · go_wp2
                  go_big_quiet (fail)
                  go_wp2
                  go_big_quiet (fail)
                  go_wp2
                  go_roundw
                  case rel => exact ⟨k + 1, by go_num, by omega, by rw [E.out], II.out.trans (by first | exact below_drewN _ _ _ | exact (below_drewN _ _ _).trans (below_drewN _ _ _))⟩
                  case measure => simp [intOf]; omega
            · have s5 : ((ya : Int) == xa) = false := by rw [beq_eq_false_iff_ne]; exact h1
              have E := Lib.hid (show metB ops a (k + 1) = mb by rw [ST.out, decide_eq_false h1]; simp)
              clear h1 ge ST
              cases mb
              · go_wp2
                go_big_quiet (fail)
                go_wp2
                go_big_quiet (fail)
                go_wp2
                go_roundw
                case rel => exact ⟨k + 1, by go_num, by omega, by rw [E.out], II.out.trans (by first | exact below_drewN _ _ _ | exact (below_drewN _ _ _).trans (below_drewN _ _ _))⟩
                case measure => simp [intOf]; omega
              · go_wp2
                go_big_quiet (fail)
                go_wp2
                go_big_quiet (fail)
                go_wp2
                go_roundw
                case rel => exact ⟨k + 1, by go_num, by omega, by rw [E.out], II.out.trans (by first | exact below_drewN _ _ _ | exact (below_drewN _ _ _).trans (below_drewN _ _ _))⟩
                case measure => simp [intOf]; omega
          · obtain rfl : k = t + 1 := by omega
            have s3 : decide (((t + 1 : Nat) : Int) ≤ t) = false := decide_eq_false (by omega)
            have s4 : ¬ (t : Int) + 1 ≤ t := by omega
            have MT := Lib.hid (show metB ops a (t + 1) = true by
              obtain ⟨j, hj, e⟩ := (PM.out a).1 List.mem_cons_self
              exact met_of hj e)
            rw [MT.out]
            have QI := Lib.hid (Q4.out.below hI)
            have BI := Lib.hid (B4.out.trans (hI.mono sz4))
            clear hI
            go_wp2
            go_roundw
            case rel => exact ⟨t + 1, by go_num, by omega, by rw [PX.out]; exact QI.out, BI.out⟩
            case measure => simp [intOf]; omega
    · obtain rfl : n = t := by omega
      have s0 : decide ((n : Int) < n) = false := decide_eq_false (by omega)
      have s00 : decide (n < n) = false := decide_eq_false (by omega)
      have PL := Lib.hid (pushN_len ops n)
      generalize pushN ops n = L at *
      cases L with
      | nil =>
        obtain rfl : n = 0 := PL.out.symm
        go_wp2_with fail
        refine (nextB QO.out).mono ?_
        rintro e w3 ⟨rfl, b3⟩
        have B3 := Lib.hid (BO.out.trans (b3.mono szo))
        clear b3
        unfold headV
        go_upto_region 23 with fail
        obtain ⟨w4, hw4⟩ : ∃ w4 : World, w4 = w3.alloc (.cells #[.int .i64 0, .int .i64 0] 70) := ⟨_, rfl⟩
        have b4 : Below w3.heap.size w3 w4 := hw4 ▸ below_alloc _ _
        have x0 : w4.cell? ⟨w3.heap.size, 0, none⟩ = some (.int .i64 0) := by rw [hw4]; simp
        have x1 : w4.cell? ⟨w3.heap.size, 1, none⟩ = some (.int .i64 0) := by rw [hw4]; simp
        have y4 : w3.heap.size < w4.heap.size := by rw [hw4]; simp
        have B4 := Lib.hid (B3.out.trans (b4.mono B3.out.size))
        rw [← hw4]
        clear hw4 b4
        generalize w3.heap.size = p at *
        go_wp2_with fail
        refine (first11 _).mono ?_
        rintro e wz ⟨rfl, bz⟩
        replace x0 := (bz.cell (p := ⟨p, 0, none⟩) y4).trans x0
        replace x1 := (bz.cell (p := ⟨p, 1, none⟩) y4).trans x1
        have BZ := Lib.hid (B4.out.trans (bz.mono B4.out.size))
        clear bz
        go_wp2_with fail
        go_ret
        exact ⟨rfl, BZ.out⟩
      | cons a L =>
        go_wp2_with fail
        refine (nextB QO.out).mono ?_
        rintro e w3 ⟨rfl, b3⟩
        have Q3 := Lib.hid (QO.out.below b3)
        have B3 := Lib.hid (BO.out.trans (b3.mono szo))
        clear b3
        unfold headV
        go_upto_region 23 with fail
        obtain ⟨w4, hw4⟩ : ∃ w4 : World, w4 = w3.alloc (.cells #[.int .i64 a.1, .int .i64 a.2] 70) := ⟨_, rfl⟩
        have b4 : Below w3.heap.size w3 w4 := hw4 ▸ below_alloc _ _
        have x0 : w4.cell? ⟨w3.heap.size, 0, none⟩ = some (.int .i64 a.1) := by rw [hw4]; simp
        have x1 : w4.cell? ⟨w3.heap.size, 1, none⟩ = some (.int .i64 a.2) := by rw [hw4]; simp
        have y4 : w3.heap.size < w4.heap.size := by rw [hw4]; simp
        have Q4 := Lib.hid (show QB w4 q (a :: L) w.heap.size (fun k => False ∨ k = w3.heap.size) from hw4 ▸ Q3.out.box _)
        have B4 := Lib.hid (B3.out.trans (b4.mono B3.out.size))
        have sz4 := B4.out.size
        rw [← hw4]
        clear hw4 b4 Q3 B3
        generalize w3.heap.size = p at *
        have ln : L.length + 1 = n := PL.out
        go_wp2_with fail
        refine (popB Q4.out a.1 (by simp; omega)).mono ?_
        rintro e w5 ⟨rfl, q5, k5⟩
        have dd : due a.1 (a :: L) = true := decide_eq_true (Int.le_refl _)
        rw [show popV a.1 (a :: L) = headV (a :: L) by unfold popV; rw [dd]; rfl]
        rw [show popL a.1 (a :: L) = L by unfold popL; rw [dd]; rfl] at q5
        have Q5 := Lib.hid q5
        have B5 := Lib.hid (B4.out.trans (k5.below sz4))
        have sz5 := k5.size
        replace x0 := (k5.cell (o := 0) y4 (.inr rfl)).trans x0
        replace x1 := (k5.cell (o := 1) y4 (.inr rfl)).trans x1
        clear q5 k5 dd
        unfold headV
        go_upto_region 26 with fail
        obtain ⟨w6, hw6⟩ : ∃ w6 : World, w6 = w5.alloc (.cells #[.int .i64 a.1, .int .i64 a.2] 70) := ⟨_, rfl⟩
        have b6 : Below w5.heap.size w5 w6 := hw6 ▸ below_alloc _ _
        have v0 : w6.cell? ⟨w5.heap.size, 0, none⟩ = some (.int .i64 a.1) := by rw [hw6]; simp
        have v1 : w6.cell? ⟨w5.heap.size, 1, none⟩ = some (.int .i64 a.2) := by rw [hw6]; simp
        have y6 : w5.heap.size < w6.heap.size := by rw [hw6]; simp
        have Q6 := Lib.hid (Q5.out.below b6)
        have B6 := Lib.hid (B5.out.trans (b6.mono B5.out.size))
        replace x0 := (b6.cell (p := ⟨p, 0, none⟩) (by show p < _; omega)).trans x0
        replace x1 := (b6.cell (p := ⟨p, 1, none⟩) (by show p < _; omega)).trans x1
        rw [← hw6]
        clear hw6 b6
        have y4' : p < w6.heap.size := by omega
        generalize w5.heap.size = p2 at *
        go_wp2_with fail
        refine (first11 _).mono ?_
        rintro e wz ⟨rfl, bz⟩
        replace x0 := (bz.cell (p := ⟨p, 0, none⟩) y4').trans x0
        replace x1 := (bz.cell (p := ⟨p, 1, none⟩) y4').trans x1
        replace v0 := (bz.cell (p := ⟨p2, 0, none⟩) y6).trans v0
        replace v1 := (bz.cell (p := ⟨p2, 1, none⟩) y6).trans v1
        have QZ := Lib.hid (Q6.out.below bz)
        have BZ := Lib.hid (B6.out.trans (bz.mono B6.out.size))
        have W5 : IntKind.i64.wrap ((n : Int) - 1) = (L.length : Int) := by rw [IntWalk.i64_in _ (by omega)]; omega
        clear bz Q6 B6 Q5 B5 Q4 B4 QO BO
        generalize a.1 = xa at *
        generalize a.2 = xb at *
        go_wp2_with fail
        refine (lenB QZ.out).mono ?_
        rintro e wy ⟨rfl, rfl⟩
        go_wp2_with fail
        go_ret
        exact ⟨by simp, BZ.out⟩
end Go.Proofs.Ytjodhfehfpmfaaa.Ti
