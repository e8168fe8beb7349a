/- The walk of days.Fits. -/
import Derived.Test.YtkkmhjplfpdhcaaGreatDoorDyWalkD
set_option linter.unusedVariables false
namespace Go.Proofs.YtkkmhjplfpdhcaaGreatDoor.Dd
open Go.RowKit Cv St Ru

theorem wk_of {r : Ru} (h : mayR r = true) : 0 ≤ r.wkst ∧ r.wkst ≤ 6 := by
  have := of_decide_eq_true (mayR_of h).1
  omega
theorem freq_of {r : Ru} (h : mayR r = true) : 1 ≤ r.freq ∧ r.freq ≤ 7 := by
  have := of_decide_eq_true (mayR_of h).1
  omega
theorem fitsWeek_is (w : World) (S : RS) (r : Ru) (d : Int) (h : RuAt w S r) (d1 : -719162 ≤ d) (d2 : d ≤ 2932896) (k1 : 0 ≤ r.wkst) (k2 : r.wkst ≤ 6) (x : Bool) (hx : weekB r d = x) :
    Calls Tryz.prog 54 #[S.val r, .int .i64 d] w fun e w' => e = .returned (.bool x) ∧ Below w.heap.size w w' := hx ▸ fitsWeek_any w S r d h d1 d2 k1 k2
theorem fitsPlaces_is (w : World) (S : RS) (r : Ru) (d : Int) (h : RuAt w S r) (x : Bool) (hx : placeB r d = x) :
    Calls Tryz.prog 55 #[S.val r, .agg (dcells d)] w fun e w' => e = .returned (.bool x) ∧ Below w.heap.size w w' := hx ▸ fitsPlaces_any w S r d h
theorem fitsDay_is (w : World) (S : RS) (r : Ru) (d : Int) (h : RuAt w S r) (x : Bool) (hx : dayFB r d = x) :
    Calls Tryz.prog 56 #[S.val r, .agg (dcells d)] w fun e w' => e = .returned (.bool x) ∧ Below w.heap.size w w' := hx ▸ fitsDay_any w S r d h
theorem fitsStart_is (w : World) (S : RS) (r : Ru) (start d : Int) (h : RuAt w S r) (hs : St.may start = true) (x : Bool) (hx : startB r (start / 86400) d = x) :
    Calls Tryz.prog 57 #[S.val r, .int .i64 start, .agg (dcells d)] w fun e w' => e = .returned (.bool x) ∧ Below w.heap.size w w' := hx ▸ fitsStart_any w S r start d h hs
set_option maxRecDepth 100000 in
set_option maxHeartbeats 8000000 in
/-- days.Fits -/
theorem fits_is (w : World) (S : RS) (r : Ru) (start d : Int) (x : Bool) (h : RuAt w S r) (hx : fitsB r start d = x) :
    Calls Tryz.prog 20 #[S.val r, .int .i64 start, .int .i64 d] w fun e w' => e = .returned (.bool x) ∧ Below w.heap.size w w' := by
  have RA := Lib.hid h
  have H6 := Lib.hid h.h6
  have l6 := h.l6
  clear h
  have WK := Lib.hid (fun h : mayR r = true => wk_of h)
  obtain ⟨a6, n6, c6, a7, n7, c7, a8, n8, c8, a9, n9, c9, a10, n10, c10, a11, n11, c11, a12, n12, c12, a13, n13, c13, a14, n14, c14⟩ := S
  obtain ⟨freq, itv, cnt, til, wkst, ends, mon, week, yday, mday, day, hour, minu, sec, pos⟩ := r
  replace l6 : n6 ≤ 140737488355328 := l6
  have HX := Lib.hid (show (isday d && mayR ⟨freq, itv, cnt, til, wkst, ends, mon, week, yday, mday, day, hour, minu, sec, pos⟩ && St.may start && fitB ⟨freq, itv, cnt, til, wkst, ends, mon, week, yday, mday, day, hour, minu, sec, pos⟩ start d) = x from hx)
  clear hx
  show Calls Tryz.prog 20 #[.agg #[.int .i64 freq, .int .i64 itv, .int .i64 cnt, .int .i64 til, .int .i64 wkst, .bool ends, .slice a6 n6 c6, .slice a7 n7 c7, .slice a8 n8 c8, .slice a9 n9 c9, .slice a10 n10 c10, .slice a11 n11 c11, .slice a12 n12 c12, .slice a13 n13 c13, .slice a14 n14 c14], .int .i64 start, .int .i64 d] w _
  by_cases hd : -719162 ≤ d ∧ d ≤ 2932896
  · obtain ⟨m, hm⟩ : ∃ m, mayR ⟨freq, itv, cnt, til, wkst, ends, mon, week, yday, mday, day, hour, minu, sec, pos⟩ = m := ⟨_, rfl⟩
    obtain ⟨n, hn⟩ : ∃ n, St.may start = n := ⟨_, rfl⟩
    have HX2 := Lib.hid (by have := HX.out; rwa [show isday d = true from decide_eq_true hd, hm, hn, Bool.true_and] at this)
    clear HX
    have HM := Lib.hid hm
    have HN := Lib.hid hn
    clear hm hn
    go_enter Tryz.func20, Tryz.ntmps20
    go_upto_region 1 with fail
    have B0 := alloc_below w (.cells #[.int .i64 freq, .int .i64 itv, .int .i64 cnt, .int .i64 til, .int .i64 wkst, .bool ends, .slice a6 n6 c6, .slice a7 n7 c7, .slice a8 n8 c8, .slice a9 n9 c9, .slice a10 n10 c10, .slice a11 n11 c11, .slice a12 n12 c12, .slice a13 n13 c13, .slice a14 n14 c14] 25)
    have XR0 := Box.new w #[.int .i64 freq, .int .i64 itv, .int .i64 cnt, .int .i64 til, .int .i64 wkst, .bool ends, .slice a6 n6 c6, .slice a7 n7 c7, .slice a8 n8 c8, .slice a9 n9 c9, .slice a10 n10 c10, .slice a11 n11 c11, .slice a12 n12 c12, .slice a13 n13 c13, .slice a14 n14 c14] 25
    generalize w.alloc (.cells #[.int .i64 freq, .int .i64 itv, .int .i64 cnt, .int .i64 til, .int .i64 wkst, .bool ends, .slice a6 n6 c6, .slice a7 n7 c7, .slice a8 n8 c8, .slice a9 n9 c9, .slice a10 n10 c10, .slice a11 n11 c11, .slice a12 n12 c12, .slice a13 n13 c13, .slice a14 n14 c14] 25) = w0 at *
    go_wp2_with fail
    refine (dateOf_yes d _ hd.1 hd.2).mono ?_
    rintro e w1 ⟨he, b1⟩
    replace he : e = .returned (.tuple #[.agg #[.int .i64 (yr d), .int .i64 (Cv.mon d), .int .i64 (dom d), .int .i64 (yd d), .int .i64 (wd d)], .bool true]) := he
    subst he
    have B1 := B0.trans (b1.mono B0.size)
    have XR1 := XR0.below b1
    clear B0 XR0
    clear b1
    go_upto_region 2 with fail
    have b2 := alloc_below w1 (.cells #[.int .i64 (yr d), .int .i64 (Cv.mon d), .int .i64 (dom d), .int .i64 (yd d), .int .i64 (wd d)] 65)
    have XF2 := Box.new w1 #[.int .i64 (yr d), .int .i64 (Cv.mon d), .int .i64 (dom d), .int .i64 (yd d), .int .i64 (wd d)] 65
    generalize w1.alloc (.cells #[.int .i64 (yr d), .int .i64 (Cv.mon d), .int .i64 (dom d), .int .i64 (yd d), .int .i64 (wd d)] 65) = w2 at *
    have B2 := B1.trans (b2.mono B1.size)
    have XR2 := XR1.below b2
    clear B1 XR1
    clear b2
    have z0 : w2.cell? ⟨w.heap.size, 0, none⟩ = some (.int .i64 freq) := XR2.at_ 0 _ rfl
    have z1 : w2.cell? ⟨w.heap.size, 1, none⟩ = some (.int .i64 itv) := XR2.at_ 1 _ rfl
    have z2 : w2.cell? ⟨w.heap.size, 2, none⟩ = some (.int .i64 cnt) := XR2.at_ 2 _ rfl
    have z3 : w2.cell? ⟨w.heap.size, 3, none⟩ = some (.int .i64 til) := XR2.at_ 3 _ rfl
    have z4 : w2.cell? ⟨w.heap.size, 4, none⟩ = some (.int .i64 wkst) := XR2.at_ 4 _ rfl
    have z5 : w2.cell? ⟨w.heap.size, 5, none⟩ = some (.bool ends) := XR2.at_ 5 _ rfl
    have z6 : w2.cell? ⟨w.heap.size, 6, none⟩ = some (.slice a6 n6 c6) := XR2.at_ 6 _ rfl
    have z7 : w2.cell? ⟨w.heap.size, 7, none⟩ = some (.slice a7 n7 c7) := XR2.at_ 7 _ rfl
    have z8 : w2.cell? ⟨w.heap.size, 8, none⟩ = some (.slice a8 n8 c8) := XR2.at_ 8 _ rfl
    have z9 : w2.cell? ⟨w.heap.size, 9, none⟩ = some (.slice a9 n9 c9) := XR2.at_ 9 _ rfl
    have z10 : w2.cell? ⟨w.heap.size, 10, none⟩ = some (.slice a10 n10 c10) := XR2.at_ 10 _ rfl
    have z11 : w2.cell? ⟨w.heap.size, 11, none⟩ = some (.slice a11 n11 c11) := XR2.at_ 11 _ rfl
    have z12 : w2.cell? ⟨w.heap.size, 12, none⟩ = some (.slice a12 n12 c12) := XR2.at_ 12 _ rfl
    have z13 : w2.cell? ⟨w.heap.size, 13, none⟩ = some (.slice a13 n13 c13) := XR2.at_ 13 _ rfl
    have z14 : w2.cell? ⟨w.heap.size, 14, none⟩ = some (.slice a14 n14 c14) := XR2.at_ 14 _ rfl
    go_wp2_with fail
    refine (may_r _ ⟨a6, n6, c6, a7, n7, c7, a8, n8, c8, a9, n9, c9, a10, n10, c10, a11, n11, c11, a12, n12, c12, a13, n13, c13, a14, n14, c14⟩ ⟨freq, itv, cnt, til, wkst, ends, mon, week, yday, mday, day, hour, minu, sec, pos⟩ m (RA.out.below B2) HM.out).mono ?_
    rintro e w3 ⟨rfl, b3⟩
    clear z0 z1 z2 z3 z4 z5 z6 z7 z8 z9 z10 z11 z12 z13 z14
    have B3 := B2.trans (b3.mono B2.size)
    have XR3 := XR2.below b3
    have XF3 := XF2.below b3
    clear B2 XR2 XF2
    clear b3
    cases m
    · have G := Lib.hid (show false = x by rw [← HX2.out]; simp)
      go_wp2
      go_ret
      exact ⟨ret_bool G.out, B3⟩
    · have K := Lib.hid (WK.out HM.out)
      cases n
      · have G := Lib.hid (show false = x by rw [← HX2.out]; simp)
        go_wp2_with fail
        refine (may_no start _ HN.out).mono ?_
        rintro e w4 ⟨rfl, rfl⟩
        go_wp2
        go_ret
        exact ⟨ret_bool G.out, B3⟩
      · go_wp2_with fail
        refine (may_yes start _ HN.out).mono ?_
        rintro e w4 ⟨rfl, rfl⟩
        obtain ⟨x1, e1⟩ : ∃ p, hasB mon (Cv.mon d) (Cv.mon d) = p := ⟨_, rfl⟩
        obtain ⟨x2, e2⟩ : ∃ p, weekB ⟨freq, itv, cnt, til, wkst, ends, mon, week, yday, mday, day, hour, minu, sec, pos⟩ d = p := ⟨_, rfl⟩
        obtain ⟨x3, e3⟩ : ∃ p, placeB ⟨freq, itv, cnt, til, wkst, ends, mon, week, yday, mday, day, hour, minu, sec, pos⟩ d = p := ⟨_, rfl⟩
        obtain ⟨x4, e4⟩ : ∃ p, dayFB ⟨freq, itv, cnt, til, wkst, ends, mon, week, yday, mday, day, hour, minu, sec, pos⟩ d = p := ⟨_, rfl⟩
        obtain ⟨x5, e5⟩ : ∃ p, startB ⟨freq, itv, cnt, til, wkst, ends, mon, week, yday, mday, day, hour, minu, sec, pos⟩ (start / 86400) d = p := ⟨_, rfl⟩
        have HX3 := Lib.hid (show (x1 && x2 && x3 && x4 && x5) = x by rw [← HX2.out, ← e1, ← e2, ← e3, ← e4, ← e5]; rfl)
        have E1 := Lib.hid e1; have E2 := Lib.hid e2; have E3 := Lib.hid e3; have E4 := Lib.hid e4; have E5 := Lib.hid e5
        clear e1 e2 e3 e4 e5 HX2
        go_upto_region 4 with fail
        have z6 : w3.cell? ⟨w.heap.size, 6, none⟩ = some (.slice a6 n6 c6) := XR3.at_ 6 _ rfl
        have y1 : w3.cell? ⟨w1.heap.size, 1, none⟩ = some (.int .i64 (Cv.mon d)) := XF3.at_ 1 _ rfl
        go_wp2_with fail
        refine (has_is _ a6 n6 c6 mon _ _ (H6.out.below B3) (by omega) x1 E1.out).mono ?_
        rintro e w4 ⟨rfl, b4⟩
        clear z6 y1
        have B4 := B3.trans (b4.mono B3.size)
        have XR4 := XR3.below b4
        have XF4 := XF3.below b4
        clear B3 XR3 XF3
        clear b4
        cases x1
        · have G := Lib.hid (show false = x by rw [← HX3.out]; simp)
          go_wp2
          go_ret
          exact ⟨ret_bool G.out, B4⟩
        · have z0 : w4.cell? ⟨w.heap.size, 0, none⟩ = some (.int .i64 freq) := XR4.at_ 0 _ rfl
          have z1 : w4.cell? ⟨w.heap.size, 1, none⟩ = some (.int .i64 itv) := XR4.at_ 1 _ rfl
          have z2 : w4.cell? ⟨w.heap.size, 2, none⟩ = some (.int .i64 cnt) := XR4.at_ 2 _ rfl
          have z3 : w4.cell? ⟨w.heap.size, 3, none⟩ = some (.int .i64 til) := XR4.at_ 3 _ rfl
          have z4 : w4.cell? ⟨w.heap.size, 4, none⟩ = some (.int .i64 wkst) := XR4.at_ 4 _ rfl
          have z5 : w4.cell? ⟨w.heap.size, 5, none⟩ = some (.bool ends) := XR4.at_ 5 _ rfl
          have z6 : w4.cell? ⟨w.heap.size, 6, none⟩ = some (.slice a6 n6 c6) := XR4.at_ 6 _ rfl
          have z7 : w4.cell? ⟨w.heap.size, 7, none⟩ = some (.slice a7 n7 c7) := XR4.at_ 7 _ rfl
          have z8 : w4.cell? ⟨w.heap.size, 8, none⟩ = some (.slice a8 n8 c8) := XR4.at_ 8 _ rfl
          have z9 : w4.cell? ⟨w.heap.size, 9, none⟩ = some (.slice a9 n9 c9) := XR4.at_ 9 _ rfl
          have z10 : w4.cell? ⟨w.heap.size, 10, none⟩ = some (.slice a10 n10 c10) := XR4.at_ 10 _ rfl
          have z11 : w4.cell? ⟨w.heap.size, 11, none⟩ = some (.slice a11 n11 c11) := XR4.at_ 11 _ rfl
          have z12 : w4.cell? ⟨w.heap.size, 12, none⟩ = some (.slice a12 n12 c12) := XR4.at_ 12 _ rfl
          have z13 : w4.cell? ⟨w.heap.size, 13, none⟩ = some (.slice a13 n13 c13) := XR4.at_ 13 _ rfl
          have z14 : w4.cell? ⟨w.heap.size, 14, none⟩ = some (.slice a14 n14 c14) := XR4.at_ 14 _ rfl
          go_wp2_with fail
          refine (fitsWeek_is _ ⟨a6, n6, c6, a7, n7, c7, a8, n8, c8, a9, n9, c9, a10, n10, c10, a11, n11, c11, a12, n12, c12, a13, n13, c13, a14, n14, c14⟩ ⟨freq, itv, cnt, til, wkst, ends, mon, week, yday, mday, day, hour, minu, sec, pos⟩ d (RA.out.below B4) hd.1 hd.2 K.out.1 K.out.2 x2 E2.out).mono ?_
          rintro e w5 ⟨rfl, b5⟩
          clear z0 z1 z2 z3 z4 z5 z6 z7 z8 z9 z10 z11 z12 z13 z14
          have B5 := B4.trans (b5.mono B4.size)
          have XR5 := XR4.below b5
          have XF5 := XF4.below b5
          clear B4 XR4 XF4
          clear b5
          cases x2
          · have G := Lib.hid (show false = x by rw [← HX3.out]; simp)
            go_wp2
            go_ret
            exact ⟨ret_bool G.out, B5⟩
          · have z0 : w5.cell? ⟨w.heap.size, 0, none⟩ = some (.int .i64 freq) := XR5.at_ 0 _ rfl
            have z1 : w5.cell? ⟨w.heap.size, 1, none⟩ = some (.int .i64 itv) := XR5.at_ 1 _ rfl
            have z2 : w5.cell? ⟨w.heap.size, 2, none⟩ = some (.int .i64 cnt) := XR5.at_ 2 _ rfl
            have z3 : w5.cell? ⟨w.heap.size, 3, none⟩ = some (.int .i64 til) := XR5.at_ 3 _ rfl
            have z4 : w5.cell? ⟨w.heap.size, 4, none⟩ = some (.int .i64 wkst) := XR5.at_ 4 _ rfl
            have z5 : w5.cell? ⟨w.heap.size, 5, none⟩ = some (.bool ends) := XR5.at_ 5 _ rfl
            have z6 : w5.cell? ⟨w.heap.size, 6, none⟩ = some (.slice a6 n6 c6) := XR5.at_ 6 _ rfl
            have z7 : w5.cell? ⟨w.heap.size, 7, none⟩ = some (.slice a7 n7 c7) := XR5.at_ 7 _ rfl
            have z8 : w5.cell? ⟨w.heap.size, 8, none⟩ = some (.slice a8 n8 c8) := XR5.at_ 8 _ rfl
            have z9 : w5.cell? ⟨w.heap.size, 9, none⟩ = some (.slice a9 n9 c9) := XR5.at_ 9 _ rfl
            have z10 : w5.cell? ⟨w.heap.size, 10, none⟩ = some (.slice a10 n10 c10) := XR5.at_ 10 _ rfl
            have z11 : w5.cell? ⟨w.heap.size, 11, none⟩ = some (.slice a11 n11 c11) := XR5.at_ 11 _ rfl
            have z12 : w5.cell? ⟨w.heap.size, 12, none⟩ = some (.slice a12 n12 c12) := XR5.at_ 12 _ rfl
            have z13 : w5.cell? ⟨w.heap.size, 13, none⟩ = some (.slice a13 n13 c13) := XR5.at_ 13 _ rfl
            have z14 : w5.cell? ⟨w.heap.size, 14, none⟩ = some (.slice a14 n14 c14) := XR5.at_ 14 _ rfl
            have y0 : w5.cell? ⟨w1.heap.size, 0, none⟩ = some (.int .i64 (yr d)) := XF5.at_ 0 _ rfl
            have y1 : w5.cell? ⟨w1.heap.size, 1, none⟩ = some (.int .i64 (Cv.mon d)) := XF5.at_ 1 _ rfl
            have y2 : w5.cell? ⟨w1.heap.size, 2, none⟩ = some (.int .i64 (dom d)) := XF5.at_ 2 _ rfl
            have y3 : w5.cell? ⟨w1.heap.size, 3, none⟩ = some (.int .i64 (yd d)) := XF5.at_ 3 _ rfl
            have y4 : w5.cell? ⟨w1.heap.size, 4, none⟩ = some (.int .i64 (wd d)) := XF5.at_ 4 _ rfl
            go_wp2_with fail
            refine (fitsPlaces_is _ ⟨a6, n6, c6, a7, n7, c7, a8, n8, c8, a9, n9, c9, a10, n10, c10, a11, n11, c11, a12, n12, c12, a13, n13, c13, a14, n14, c14⟩ ⟨freq, itv, cnt, til, wkst, ends, mon, week, yday, mday, day, hour, minu, sec, pos⟩ d (RA.out.below B5) x3 E3.out).mono ?_
            rintro e w6 ⟨rfl, b6⟩
            clear z0 z1 z2 z3 z4 z5 z6 z7 z8 z9 z10 z11 z12 z13 z14 y0 y1 y2 y3 y4
            have B6 := B5.trans (b6.mono B5.size)
            have XR6 := XR5.below b6
            have XF6 := XF5.below b6
            clear B5 XR5 XF5
            clear b6
            cases x3
            · have G := Lib.hid (show false = x by rw [← HX3.out]; simp)
              go_wp2
              go_ret
              exact ⟨ret_bool G.out, B6⟩
            · have z0 : w6.cell? ⟨w.heap.size, 0, none⟩ = some (.int .i64 freq) := XR6.at_ 0 _ rfl
              have z1 : w6.cell? ⟨w.heap.size, 1, none⟩ = some (.int .i64 itv) := XR6.at_ 1 _ rfl
              have z2 : w6.cell? ⟨w.heap.size, 2, none⟩ = some (.int .i64 cnt) := XR6.at_ 2 _ rfl
              have z3 : w6.cell? ⟨w.heap.size, 3, none⟩ = some (.int .i64 til) := XR6.at_ 3 _ rfl
              have z4 : w6.cell? ⟨w.heap.size, 4, none⟩ = some (.int .i64 wkst) := XR6.at_ 4 _ rfl
              have z5 : w6.cell? ⟨w.heap.size, 5, none⟩ = some (.bool ends) := XR6.at_ 5 _ rfl
              have z6 : w6.cell? ⟨w.heap.size, 6, none⟩ = some (.slice a6 n6 c6) := XR6.at_ 6 _ rfl
              have z7 : w6.cell? ⟨w.heap.size, 7, none⟩ = some (.slice a7 n7 c7) := XR6.at_ 7 _ rfl
              have z8 : w6.cell? ⟨w.heap.size, 8, none⟩ = some (.slice a8 n8 c8) := XR6.at_ 8 _ rfl
              have z9 : w6.cell? ⟨w.heap.size, 9, none⟩ = some (.slice a9 n9 c9) := XR6.at_ 9 _ rfl
              have z10 : w6.cell? ⟨w.heap.size, 10, none⟩ = some (.slice a10 n10 c10) := XR6.at_ 10 _ rfl
              have z11 : w6.cell? ⟨w.heap.size, 11, none⟩ = some (.slice a11 n11 c11) := XR6.at_ 11 _ rfl
              have z12 : w6.cell? ⟨w.heap.size, 12, none⟩ = some (.slice a12 n12 c12) := XR6.at_ 12 _ rfl
              have z13 : w6.cell? ⟨w.heap.size, 13, none⟩ = some (.slice a13 n13 c13) := XR6.at_ 13 _ rfl
              have z14 : w6.cell? ⟨w.heap.size, 14, none⟩ = some (.slice a14 n14 c14) := XR6.at_ 14 _ rfl
              have y0 : w6.cell? ⟨w1.heap.size, 0, none⟩ = some (.int .i64 (yr d)) := XF6.at_ 0 _ rfl
              have y1 : w6.cell? ⟨w1.heap.size, 1, none⟩ = some (.int .i64 (Cv.mon d)) := XF6.at_ 1 _ rfl
              have y2 : w6.cell? ⟨w1.heap.size, 2, none⟩ = some (.int .i64 (dom d)) := XF6.at_ 2 _ rfl
              have y3 : w6.cell? ⟨w1.heap.size, 3, none⟩ = some (.int .i64 (yd d)) := XF6.at_ 3 _ rfl
              have y4 : w6.cell? ⟨w1.heap.size, 4, none⟩ = some (.int .i64 (wd d)) := XF6.at_ 4 _ rfl
              go_wp2_with fail
              refine (fitsDay_is _ ⟨a6, n6, c6, a7, n7, c7, a8, n8, c8, a9, n9, c9, a10, n10, c10, a11, n11, c11, a12, n12, c12, a13, n13, c13, a14, n14, c14⟩ ⟨freq, itv, cnt, til, wkst, ends, mon, week, yday, mday, day, hour, minu, sec, pos⟩ d (RA.out.below B6) x4 E4.out).mono ?_
              rintro e w7 ⟨rfl, b7⟩
              clear z0 z1 z2 z3 z4 z5 z6 z7 z8 z9 z10 z11 z12 z13 z14 y0 y1 y2 y3 y4
              have B7 := B6.trans (b7.mono B6.size)
              have XR7 := XR6.below b7
              have XF7 := XF6.below b7
              clear B6 XR6 XF6
              clear b7
              cases x4
              · have G := Lib.hid (show false = x by rw [← HX3.out]; simp)
                go_wp2
                go_ret
                exact ⟨ret_bool G.out, B7⟩
              · have z0 : w7.cell? ⟨w.heap.size, 0, none⟩ = some (.int .i64 freq) := XR7.at_ 0 _ rfl
                have z1 : w7.cell? ⟨w.heap.size, 1, none⟩ = some (.int .i64 itv) := XR7.at_ 1 _ rfl
                have z2 : w7.cell? ⟨w.heap.size, 2, none⟩ = some (.int .i64 cnt) := XR7.at_ 2 _ rfl
                have z3 : w7.cell? ⟨w.heap.size, 3, none⟩ = some (.int .i64 til) := XR7.at_ 3 _ rfl
                have z4 : w7.cell? ⟨w.heap.size, 4, none⟩ = some (.int .i64 wkst) := XR7.at_ 4 _ rfl
                have z5 : w7.cell? ⟨w.heap.size, 5, none⟩ = some (.bool ends) := XR7.at_ 5 _ rfl
                have z6 : w7.cell? ⟨w.heap.size, 6, none⟩ = some (.slice a6 n6 c6) := XR7.at_ 6 _ rfl
                have z7 : w7.cell? ⟨w.heap.size, 7, none⟩ = some (.slice a7 n7 c7) := XR7.at_ 7 _ rfl
                have z8 : w7.cell? ⟨w.heap.size, 8, none⟩ = some (.slice a8 n8 c8) := XR7.at_ 8 _ rfl
                have z9 : w7.cell? ⟨w.heap.size, 9, none⟩ = some (.slice a9 n9 c9) := XR7.at_ 9 _ rfl
                have z10 : w7.cell? ⟨w.heap.size, 10, none⟩ = some (.slice a10 n10 c10) := XR7.at_ 10 _ rfl
                have z11 : w7.cell? ⟨w.heap.size, 11, none⟩ = some (.slice a11 n11 c11) := XR7.at_ 11 _ rfl
                have z12 : w7.cell? ⟨w.heap.size, 12, none⟩ = some (.slice a12 n12 c12) := XR7.at_ 12 _ rfl
                have z13 : w7.cell? ⟨w.heap.size, 13, none⟩ = some (.slice a13 n13 c13) := XR7.at_ 13 _ rfl
                have z14 : w7.cell? ⟨w.heap.size, 14, none⟩ = some (.slice a14 n14 c14) := XR7.at_ 14 _ rfl
                have y0 : w7.cell? ⟨w1.heap.size, 0, none⟩ = some (.int .i64 (yr d)) := XF7.at_ 0 _ rfl
                have y1 : w7.cell? ⟨w1.heap.size, 1, none⟩ = some (.int .i64 (Cv.mon d)) := XF7.at_ 1 _ rfl
                have y2 : w7.cell? ⟨w1.heap.size, 2, none⟩ = some (.int .i64 (dom d)) := XF7.at_ 2 _ rfl
                have y3 : w7.cell? ⟨w1.heap.size, 3, none⟩ = some (.int .i64 (yd d)) := XF7.at_ 3 _ rfl
                have y4 : w7.cell? ⟨w1.heap.size, 4, none⟩ = some (.int .i64 (wd d)) := XF7.at_ 4 _ rfl
                go_wp2_with fail
                refine (fitsStart_is _ ⟨a6, n6, c6, a7, n7, c7, a8, n8, c8, a9, n9, c9, a10, n10, c10, a11, n11, c11, a12, n12, c12, a13, n13, c13, a14, n14, c14⟩ ⟨freq, itv, cnt, til, wkst, ends, mon, week, yday, mday, day, hour, minu, sec, pos⟩ start d (RA.out.below B7) HN.out x5 E5.out).mono ?_
                rintro e w8 ⟨rfl, b8⟩
                clear z0 z1 z2 z3 z4 z5 z6 z7 z8 z9 z10 z11 z12 z13 z14 y0 y1 y2 y3 y4
                have B8 := B7.trans (b8.mono B7.size)
                have XR8 := XR7.below b8
                have XF8 := XF7.below b8
                clear B7 XR7 XF7
                clear b8
                have G := Lib.hid (show x5 = x by rw [← HX3.out]; simp)
                go_wp2
                go_ret
                exact ⟨ret_bool G.out, B8⟩
  · have G := Lib.hid (show false = x by rw [← HX.out, show isday d = false from decide_eq_false hd]; simp)
    have HD := Lib.hid hd
    clear HX hd
    go_enter Tryz.func20, Tryz.ntmps20
    go_upto_region 1 with fail
    have B0 := alloc_below w (.cells #[.int .i64 freq, .int .i64 itv, .int .i64 cnt, .int .i64 til, .int .i64 wkst, .bool ends, .slice a6 n6 c6, .slice a7 n7 c7, .slice a8 n8 c8, .slice a9 n9 c9, .slice a10 n10 c10, .slice a11 n11 c11, .slice a12 n12 c12, .slice a13 n13 c13, .slice a14 n14 c14] 25)
    have XR0 := Box.new w #[.int .i64 freq, .int .i64 itv, .int .i64 cnt, .int .i64 til, .int .i64 wkst, .bool ends, .slice a6 n6 c6, .slice a7 n7 c7, .slice a8 n8 c8, .slice a9 n9 c9, .slice a10 n10 c10, .slice a11 n11 c11, .slice a12 n12 c12, .slice a13 n13 c13, .slice a14 n14 c14] 25
    generalize w.alloc (.cells #[.int .i64 freq, .int .i64 itv, .int .i64 cnt, .int .i64 til, .int .i64 wkst, .bool ends, .slice a6 n6 c6, .slice a7 n7 c7, .slice a8 n8 c8, .slice a9 n9 c9, .slice a10 n10 c10, .slice a11 n11 c11, .slice a12 n12 c12, .slice a13 n13 c13, .slice a14 n14 c14] 25) = w0 at *
    go_wp2_with fail
    refine (dateOf_no d _ HD.out).mono ?_
    rintro e w1 ⟨rfl, b1⟩
    have B1 := B0.trans (b1.mono B0.size)
    have XR1 := XR0.below b1
    clear B0 XR0
    clear b1
    go_wp2
    go_ret
    exact ⟨ret_bool G.out, B1.trans ((alloc_below _ _).mono B1.size)⟩
end Go.Proofs.YtkkmhjplfpdhcaaGreatDoor.Dd
