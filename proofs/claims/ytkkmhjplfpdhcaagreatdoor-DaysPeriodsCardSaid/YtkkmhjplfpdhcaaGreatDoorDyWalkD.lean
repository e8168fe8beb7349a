/- The walks of package days' fitsStart and Fits. -/
import Derived.Test.YtkkmhjplfpdhcaaGreatDoorDyWalkC
set_option linter.unusedVariables false
namespace Go.Proofs.YtkkmhjplfpdhcaaGreatDoor.Dd
open Go.RowKit Cv St Ru

theorem startB_len (r : Ru) (s n : Int) : startB r s n = (if 0 < r.yday.length + r.mday.length + r.day.length then true else if r.freq = 3 ∨ r.week.length ≠ 0 then decide (wd n = wd s) else if r.freq = 1 then decide (dom n = dom s ∧ (r.mon.length ≠ 0 ∨ Cv.mon n = Cv.mon s)) else if r.freq = 2 then decide (dom n = dom s) else true) := by
  unfold startB
  simp only [ne_eq, List.length_eq_zero_iff]
set_option maxRecDepth 100000 in
set_option maxHeartbeats 8000000 in
/-- days.fitsStart -/
theorem fitsStart_any (w : World) (S : RS) (r : Ru) (start d : Int) (h : RuAt w S r) (hs : St.may start = true) :
    Calls Tryz.prog 57 #[S.val r, .int .i64 start, .agg (dcells d)] w fun e w' => e = .returned (.bool (startB r (start / 86400) d)) ∧ Below w.heap.size w w' := by
  obtain ⟨x, hx⟩ : ∃ x, startB r (start / 86400) d = x := ⟨_, rfl⟩
  rw [hx]
  have hs1 := of_decide_eq_true hs
  have sd := may_day hs1.1 hs1.2
  have E6 := Lib.hid h.h6.1
  have E7 := Lib.hid h.h7.1
  have E8 := Lib.hid h.h8.1
  have E9 := Lib.hid h.h9.1
  have E10 := Lib.hid h.h10.1
  have l6 := h.l6; have l7 := h.l7; have l8 := h.l8; have l9 := h.l9; have l10 := h.l10
  clear h hs
  rw [startB_len, ← E6.out, ← E7.out, ← E8.out, ← E9.out, ← E10.out] at hx
  obtain ⟨s, hsd⟩ : ∃ s, start / 86400 = s := ⟨_, rfl⟩
  rw [hsd] at hx sd
  have SD := Lib.hid hsd
  have sl : -9223372036854775808 ≤ start := by omega
  have sh : start ≤ 9223372036854775807 := by omega
  clear hs1
  obtain ⟨a6, n6, c6, a7, n7, c7, a8, n8, c8, a9, n9, c9, a10, n10, c10, a11, n11, c11, a12, n12, c12, a13, n13, c13, a14, n14, c14⟩ := S
  obtain ⟨freq, itv, cnt, til, wkst, ends, mon, week, yday, mday, day, hour, minu, sec, pos⟩ := r
  replace l6 : n6 ≤ 140737488355328 := l6
  replace l7 : n7 ≤ 140737488355328 := l7
  replace l8 : n8 ≤ 140737488355328 := l8
  replace l9 : n9 ≤ 140737488355328 := l9
  replace l10 : n10 ≤ 140737488355328 := l10
  have HX := Lib.hid (show (if 0 < n8 + n9 + n10 then true else if freq = 3 ∨ n7 ≠ 0 then decide (wd d = wd s) else if freq = 1 then decide (dom d = dom s ∧ (n6 ≠ 0 ∨ Cv.mon d = Cv.mon s)) else if freq = 2 then decide (dom d = dom s) else true) = x from hx)
  clear hx E6 E7 E8 E9 E10 hsd
  show Calls Tryz.prog 57 #[.agg #[.int .i64 freq, .int .i64 itv, .int .i64 cnt, .int .i64 til, .int .i64 wkst, .bool ends, .slice a6 n6 c6, .slice a7 n7 c7, .slice a8 n8 c8, .slice a9 n9 c9, .slice a10 n10 c10, .slice a11 n11 c11, .slice a12 n12 c12, .slice a13 n13 c13, .slice a14 n14 c14], .int .i64 start, .agg #[.int .i64 (yr d), .int .i64 (Cv.mon d), .int .i64 (dom d), .int .i64 (yd d), .int .i64 (wd d)]] w _
  by_cases a0 : 0 < n8 + n9 + n10
  · have G := Lib.hid (show true = x by rw [← HX.out, if_pos a0])
    clear HX
    go_enter Tryz.func57, Tryz.ntmps57
    go_upto_region 1 with fail
    have B0 := two_belowB w (.cells #[.int .i64 freq, .int .i64 itv, .int .i64 cnt, .int .i64 til, .int .i64 wkst, .bool ends, .slice a6 n6 c6, .slice a7 n7 c7, .slice a8 n8 c8, .slice a9 n9 c9, .slice a10 n10 c10, .slice a11 n11 c11, .slice a12 n12 c12, .slice a13 n13 c13, .slice a14 n14 c14] 25) (.cells #[.int .i64 (yr d), .int .i64 (Cv.mon d), .int .i64 (dom d), .int .i64 (yd d), .int .i64 (wd d)] 65)
    have XR0 := two_boxA w #[.int .i64 freq, .int .i64 itv, .int .i64 cnt, .int .i64 til, .int .i64 wkst, .bool ends, .slice a6 n6 c6, .slice a7 n7 c7, .slice a8 n8 c8, .slice a9 n9 c9, .slice a10 n10 c10, .slice a11 n11 c11, .slice a12 n12 c12, .slice a13 n13 c13, .slice a14 n14 c14] #[.int .i64 (yr d), .int .i64 (Cv.mon d), .int .i64 (dom d), .int .i64 (yd d), .int .i64 (wd d)] 25 65
    have XD0 := two_boxB w #[.int .i64 freq, .int .i64 itv, .int .i64 cnt, .int .i64 til, .int .i64 wkst, .bool ends, .slice a6 n6 c6, .slice a7 n7 c7, .slice a8 n8 c8, .slice a9 n9 c9, .slice a10 n10 c10, .slice a11 n11 c11, .slice a12 n12 c12, .slice a13 n13 c13, .slice a14 n14 c14] #[.int .i64 (yr d), .int .i64 (Cv.mon d), .int .i64 (dom d), .int .i64 (yd d), .int .i64 (wd d)] 25 65
    have SR0 := two_size w (.cells #[.int .i64 freq, .int .i64 itv, .int .i64 cnt, .int .i64 til, .int .i64 wkst, .bool ends, .slice a6 n6 c6, .slice a7 n7 c7, .slice a8 n8 c8, .slice a9 n9 c9, .slice a10 n10 c10, .slice a11 n11 c11, .slice a12 n12 c12, .slice a13 n13 c13, .slice a14 n14 c14] 25) (.cells #[.int .i64 (yr d), .int .i64 (Cv.mon d), .int .i64 (dom d), .int .i64 (yd d), .int .i64 (wd d)] 65)
    generalize (w.alloc (.cells #[.int .i64 freq, .int .i64 itv, .int .i64 cnt, .int .i64 til, .int .i64 wkst, .bool ends, .slice a6 n6 c6, .slice a7 n7 c7, .slice a8 n8 c8, .slice a9 n9 c9, .slice a10 n10 c10, .slice a11 n11 c11, .slice a12 n12 c12, .slice a13 n13 c13, .slice a14 n14 c14] 25)).alloc (.cells #[.int .i64 (yr d), .int .i64 (Cv.mon d), .int .i64 (dom d), .int .i64 (yd d), .int .i64 (wd d)] 65) = w0 at *
    have z8 : w0.cell? ⟨w.heap.size, 8, none⟩ = some (.slice a8 n8 c8) := XR0.at_ 8 _ rfl
    have z9 : w0.cell? ⟨w.heap.size, 9, none⟩ = some (.slice a9 n9 c9) := XR0.at_ 9 _ rfl
    have z10 : w0.cell? ⟨w.heap.size, 10, none⟩ = some (.slice a10 n10 c10) := XR0.at_ 10 _ rfl
    have t0 : decide ((0 : Int) < (n8 : Int) + (n9 : Int) + (n10 : Int)) = true := decide_eq_true (by omega)
    go_wp2
    go_ret
    exact ⟨ret_bool G.out, B0⟩
  · have HX2 := Lib.hid (by have := HX.out; rwa [if_neg a0] at this)
    clear HX
    go_enter Tryz.func57, Tryz.ntmps57
    go_upto_region 1 with fail
    have B0 := two_belowB w (.cells #[.int .i64 freq, .int .i64 itv, .int .i64 cnt, .int .i64 til, .int .i64 wkst, .bool ends, .slice a6 n6 c6, .slice a7 n7 c7, .slice a8 n8 c8, .slice a9 n9 c9, .slice a10 n10 c10, .slice a11 n11 c11, .slice a12 n12 c12, .slice a13 n13 c13, .slice a14 n14 c14] 25) (.cells #[.int .i64 (yr d), .int .i64 (Cv.mon d), .int .i64 (dom d), .int .i64 (yd d), .int .i64 (wd d)] 65)
    have XR0 := two_boxA w #[.int .i64 freq, .int .i64 itv, .int .i64 cnt, .int .i64 til, .int .i64 wkst, .bool ends, .slice a6 n6 c6, .slice a7 n7 c7, .slice a8 n8 c8, .slice a9 n9 c9, .slice a10 n10 c10, .slice a11 n11 c11, .slice a12 n12 c12, .slice a13 n13 c13, .slice a14 n14 c14] #[.int .i64 (yr d), .int .i64 (Cv.mon d), .int .i64 (dom d), .int .i64 (yd d), .int .i64 (wd d)] 25 65
    have XD0 := two_boxB w #[.int .i64 freq, .int .i64 itv, .int .i64 cnt, .int .i64 til, .int .i64 wkst, .bool ends, .slice a6 n6 c6, .slice a7 n7 c7, .slice a8 n8 c8, .slice a9 n9 c9, .slice a10 n10 c10, .slice a11 n11 c11, .slice a12 n12 c12, .slice a13 n13 c13, .slice a14 n14 c14] #[.int .i64 (yr d), .int .i64 (Cv.mon d), .int .i64 (dom d), .int .i64 (yd d), .int .i64 (wd d)] 25 65
    have SR0 := two_size w (.cells #[.int .i64 freq, .int .i64 itv, .int .i64 cnt, .int .i64 til, .int .i64 wkst, .bool ends, .slice a6 n6 c6, .slice a7 n7 c7, .slice a8 n8 c8, .slice a9 n9 c9, .slice a10 n10 c10, .slice a11 n11 c11, .slice a12 n12 c12, .slice a13 n13 c13, .slice a14 n14 c14] 25) (.cells #[.int .i64 (yr d), .int .i64 (Cv.mon d), .int .i64 (dom d), .int .i64 (yd d), .int .i64 (wd d)] 65)
    generalize (w.alloc (.cells #[.int .i64 freq, .int .i64 itv, .int .i64 cnt, .int .i64 til, .int .i64 wkst, .bool ends, .slice a6 n6 c6, .slice a7 n7 c7, .slice a8 n8 c8, .slice a9 n9 c9, .slice a10 n10 c10, .slice a11 n11 c11, .slice a12 n12 c12, .slice a13 n13 c13, .slice a14 n14 c14] 25)).alloc (.cells #[.int .i64 (yr d), .int .i64 (Cv.mon d), .int .i64 (dom d), .int .i64 (yd d), .int .i64 (wd d)] 65) = w0 at *
    replace SR0 : w.heap.size + 2 ≤ w0.heap.size := by omega
    have z8 : w0.cell? ⟨w.heap.size, 8, none⟩ = some (.slice a8 n8 c8) := XR0.at_ 8 _ rfl
    have z9 : w0.cell? ⟨w.heap.size, 9, none⟩ = some (.slice a9 n9 c9) := XR0.at_ 9 _ rfl
    have z10 : w0.cell? ⟨w.heap.size, 10, none⟩ = some (.slice a10 n10 c10) := XR0.at_ 10 _ rfl
    have t0 : decide ((0 : Int) < (n8 : Int) + (n9 : Int) + (n10 : Int)) = false := decide_eq_false (by omega)
    go_wp2_with (go_at_call 18; refine (day_any start _ sl sh).mono ?_; rintro e w2 ⟨rfl, rfl⟩)
    refine (dateOf_yes (start / 86400) _ (by have := SD.out; omega) (by have := SD.out; omega)).mono ?_
    rintro e w1 ⟨he, b1⟩
    rw [SD.out] at he
    replace he : e = .returned (.tuple #[.agg #[.int .i64 (yr s), .int .i64 (Cv.mon s), .int .i64 (dom s), .int .i64 (yd s), .int .i64 (wd s)], .bool true]) := he
    subst he
    rw [SD.out]
    clear z8 z9 z10
    have B1 := B0.trans (b1.mono B0.size)
    have XR1 := XR0.below b1
    have XD1 := XD0.below b1
    have SR1 : w.heap.size + 2 ≤ w1.heap.size := by have := b1.size; omega
    clear B0 XR0 XD0 SR0
    clear b1 t0 a0
    go_upto_region 5 with fail
    have b2 := alloc_below w1 (.cells #[.int .i64 (yr s), .int .i64 (Cv.mon s), .int .i64 (dom s), .int .i64 (yd s), .int .i64 (wd s)] 65)
    have XF := Box.new w1 #[.int .i64 (yr s), .int .i64 (Cv.mon s), .int .i64 (dom s), .int .i64 (yd s), .int .i64 (wd s)] 65
    have GF := w1.heap.size
    generalize w1.alloc (.cells #[.int .i64 (yr s), .int .i64 (Cv.mon s), .int .i64 (dom s), .int .i64 (yd s), .int .i64 (wd s)] 65) = w2 at *
    have B2 := B1.trans (b2.mono B1.size)
    have XR2 := XR1.below b2
    have XD2 := XD1.below b2
    have SR2 : w.heap.size + 2 ≤ w2.heap.size := by have := b2.size; omega
    clear B1 XR1 XD1 SR1
    clear b2 GF
    clear SR2
    by_cases a1 : freq = 3
    · have G := Lib.hid (show ((wd d : Int) == wd s) = x by rw [← HX2.out, if_pos (.inl a1)]; rfl)
      clear HX2
      have t1 : ((freq : Int) == 3) = true := by rw [beq_iff_eq]; exact a1
      have z0 : w2.cell? ⟨w.heap.size, 0, none⟩ = some (.int .i64 freq) := XR2.at_ 0 _ rfl
      have z24 : w2.cell? ⟨w.heap.size + 1, 4, none⟩ = some (.int .i64 (wd d)) := XD2.at_ 4 _ rfl
      have y4 : w2.cell? ⟨w1.heap.size, 4, none⟩ = some (.int .i64 (wd s)) := XF.at_ 4 _ rfl
      clear a1
      go_wp2
      go_ret
      exact ⟨ret_bool G.out, B2⟩
    · have t1 : ((freq : Int) == 3) = false := by rw [beq_eq_false_iff_ne]; exact a1
      by_cases a2 : 0 < n7
      · have G := Lib.hid (show ((wd d : Int) == wd s) = x by rw [← HX2.out, if_pos (.inr (by omega))]; rfl)
        clear HX2
        have z0 : w2.cell? ⟨w.heap.size, 0, none⟩ = some (.int .i64 freq) := XR2.at_ 0 _ rfl
        have z7 : w2.cell? ⟨w.heap.size, 7, none⟩ = some (.slice a7 n7 c7) := XR2.at_ 7 _ rfl
        have z24 : w2.cell? ⟨w.heap.size + 1, 4, none⟩ = some (.int .i64 (wd d)) := XD2.at_ 4 _ rfl
        have y4 : w2.cell? ⟨w1.heap.size, 4, none⟩ = some (.int .i64 (wd s)) := XF.at_ 4 _ rfl
        clear a1
        go_wp2
        go_ret
        exact ⟨ret_bool G.out, B2⟩
      · have HX3 := Lib.hid (by have := HX2.out; rwa [if_neg (show ¬ (freq = 3 ∨ n7 ≠ 0) from fun g => g.elim a1 (fun g => a2 (by omega)))] at this)
        clear HX2 a1
        by_cases a3 : freq = 1
        · have HX4 := Lib.hid (by have := HX3.out; rwa [if_pos a3] at this)
          clear HX3
          have t3 : ((freq : Int) == 1) = true := by rw [beq_iff_eq]; exact a3
          have f3 : freq = 1 := a3
          clear a3 f3
          by_cases a4 : dom d = dom s
          · have t4 : ((dom d : Int) == dom s) = true := by rw [beq_iff_eq]; exact a4
            by_cases a5 : 0 < n6
            · have G := Lib.hid (show true = x by rw [← HX4.out]; exact (decide_eq_true ⟨a4, .inl (by omega)⟩).symm)
              clear HX4 a4
              have z0 : w2.cell? ⟨w.heap.size, 0, none⟩ = some (.int .i64 freq) := XR2.at_ 0 _ rfl
              have z6 : w2.cell? ⟨w.heap.size, 6, none⟩ = some (.slice a6 n6 c6) := XR2.at_ 6 _ rfl
              have z7 : w2.cell? ⟨w.heap.size, 7, none⟩ = some (.slice a7 n7 c7) := XR2.at_ 7 _ rfl
              have z22 : w2.cell? ⟨w.heap.size + 1, 2, none⟩ = some (.int .i64 (dom d)) := XD2.at_ 2 _ rfl
              have y2 : w2.cell? ⟨w1.heap.size, 2, none⟩ = some (.int .i64 (dom s)) := XF.at_ 2 _ rfl
              go_wp2
              go_ret
              exact ⟨ret_bool G.out, B2⟩
            · have G := Lib.hid (show ((Cv.mon d : Int) == Cv.mon s) = x by
                rw [← HX4.out]
                exact decide_eq_decide.2 ⟨fun g => ⟨a4, .inr g⟩, fun g => g.2.resolve_left (fun h => a5 (by omega))⟩)
              clear HX4 a4
              have z0 : w2.cell? ⟨w.heap.size, 0, none⟩ = some (.int .i64 freq) := XR2.at_ 0 _ rfl
              have z6 : w2.cell? ⟨w.heap.size, 6, none⟩ = some (.slice a6 n6 c6) := XR2.at_ 6 _ rfl
              have z7 : w2.cell? ⟨w.heap.size, 7, none⟩ = some (.slice a7 n7 c7) := XR2.at_ 7 _ rfl
              have z21 : w2.cell? ⟨w.heap.size + 1, 1, none⟩ = some (.int .i64 (Cv.mon d)) := XD2.at_ 1 _ rfl
              have z22 : w2.cell? ⟨w.heap.size + 1, 2, none⟩ = some (.int .i64 (dom d)) := XD2.at_ 2 _ rfl
              have y1 : w2.cell? ⟨w1.heap.size, 1, none⟩ = some (.int .i64 (Cv.mon s)) := XF.at_ 1 _ rfl
              have y2 : w2.cell? ⟨w1.heap.size, 2, none⟩ = some (.int .i64 (dom s)) := XF.at_ 2 _ rfl
              go_wp2
              go_ret
              exact ⟨ret_bool G.out, B2⟩
          · have t4 : ((dom d : Int) == dom s) = false := by rw [beq_eq_false_iff_ne]; exact a4
            have G := Lib.hid (show false = x by rw [← HX4.out]; exact (decide_eq_false (fun g => a4 g.1)).symm)
            clear HX4 a4
            have z0 : w2.cell? ⟨w.heap.size, 0, none⟩ = some (.int .i64 freq) := XR2.at_ 0 _ rfl
            have z6 : w2.cell? ⟨w.heap.size, 6, none⟩ = some (.slice a6 n6 c6) := XR2.at_ 6 _ rfl
            have z7 : w2.cell? ⟨w.heap.size, 7, none⟩ = some (.slice a7 n7 c7) := XR2.at_ 7 _ rfl
            have z22 : w2.cell? ⟨w.heap.size + 1, 2, none⟩ = some (.int .i64 (dom d)) := XD2.at_ 2 _ rfl
            have y2 : w2.cell? ⟨w1.heap.size, 2, none⟩ = some (.int .i64 (dom s)) := XF.at_ 2 _ rfl
            go_wp2
            go_ret
            exact ⟨ret_bool G.out, B2⟩
        · have t3 : ((freq : Int) == 1) = false := by rw [beq_eq_false_iff_ne]; exact a3
          by_cases a4 : freq = 2
          · have t4 : ((freq : Int) == 2) = true := by rw [beq_iff_eq]; exact a4
            have G := Lib.hid (show ((dom d : Int) == dom s) = x by rw [← HX3.out, if_neg a3, if_pos a4]; rfl)
            clear HX3 a3 a4
            have z0 : w2.cell? ⟨w.heap.size, 0, none⟩ = some (.int .i64 freq) := XR2.at_ 0 _ rfl
            have z7 : w2.cell? ⟨w.heap.size, 7, none⟩ = some (.slice a7 n7 c7) := XR2.at_ 7 _ rfl
            have z22 : w2.cell? ⟨w.heap.size + 1, 2, none⟩ = some (.int .i64 (dom d)) := XD2.at_ 2 _ rfl
            have y2 : w2.cell? ⟨w1.heap.size, 2, none⟩ = some (.int .i64 (dom s)) := XF.at_ 2 _ rfl
            go_wp2
            go_ret
            exact ⟨ret_bool G.out, B2⟩
          · have t4 : ((freq : Int) == 2) = false := by rw [beq_eq_false_iff_ne]; exact a4
            have G := Lib.hid (show true = x by rw [← HX3.out, if_neg a3, if_neg a4])
            clear HX3 a3 a4
            have z0 : w2.cell? ⟨w.heap.size, 0, none⟩ = some (.int .i64 freq) := XR2.at_ 0 _ rfl
            have z7 : w2.cell? ⟨w.heap.size, 7, none⟩ = some (.slice a7 n7 c7) := XR2.at_ 7 _ rfl
            go_wp2
            go_ret
            exact ⟨ret_bool G.out, B2⟩
end Go.Proofs.YtkkmhjplfpdhcaaGreatDoor.Dd
