/- The walks of package days' fitsWeek, fitsPlaces, fitsDay, fitsStart. -/
import Derived.Test.YtkkmhjplfpdhcaaGreatDoorDyWalkA
import Derived.Test.YtkkmhjplfpdhcaaGreatDoorRuClass
set_option linter.unusedVariables false
namespace Go.Proofs.YtkkmhjplfpdhcaaGreatDoor.Dd
open Go.RowKit Cv St Ru

theorem two_belowB (w : World) (o p : Obj) : Below w.heap.size w ((w.alloc o).alloc p) := (alloc_below w o).trans ((alloc_below (w.alloc o) p).mono (by simp))
theorem two_boxA (w : World) (cs ds : Array Value) (T U : TypeId) : Box ((w.alloc (.cells cs T)).alloc (.cells ds U)) w.heap.size cs := (Box.new w cs T).below (alloc_below _ _)
theorem two_boxB (w : World) (cs ds : Array Value) (T U : TypeId) : Box ((w.alloc (.cells cs T)).alloc (.cells ds U)) (w.heap.size + 1) ds := by
  have := Box.new (w.alloc (.cells cs T)) ds U
  simpa using this
theorem two_size (w : World) (o p : Obj) : ((w.alloc o).alloc p).heap.size = w.heap.size + 2 := by simp
theorem has_is (w : World) (A : Option Addr) (n c : Nat) (l : List Int) (f b : Int) (hl : IsAt w A n l) (h1 : n ≤ 9223372036854775807) (p : Bool) (hp : hasB l f b = p) :
    Calls Tryz.prog 53 #[.slice A n c, .int .i64 f, .int .i64 b] w fun e w' => e = .returned (.bool p) ∧ Below w.heap.size w w' := hp ▸ has_any w A n c l f b hl h1
set_option maxRecDepth 100000 in
set_option maxHeartbeats 2000000 in
/-- days.fitsWeek -/
theorem fitsWeek_any (w : World) (S : RS) (r : Ru) (d : Int) (h : RuAt w S r) (d1 : -719162 ≤ d) (d2 : d ≤ 2932896) (k1 : 0 ≤ r.wkst) (k2 : r.wkst ≤ 6) :
    Calls Tryz.prog 54 #[S.val r, .int .i64 d] w fun e w' => e = .returned (.bool (weekB r d)) ∧ Below w.heap.size w w' := by
  obtain ⟨x, hx⟩ : ∃ x, weekB r d = x := ⟨_, rfl⟩
  rw [hx]
  have H7 := Lib.hid h.h7
  have L7 := h.l7
  clear h
  have wb := wkn_bd d r.wkst
  have ws := wks_bd (wky d r.wkst) r.wkst k1 k2

  obtain ⟨a6, n6, c6, a7, n7, c7, a8, n8, c8, a9, n9, c9, a10, n10, c10, a11, n11, c11, a12, n12, c12, a13, n13, c13, a14, n14, c14⟩ := S
  obtain ⟨freq, itv, cnt, til, wkst, ends, mon, week, yday, mday, day, hour, minu, sec, pos⟩ := r
  replace k1 : 0 ≤ wkst := k1
  replace k2 : wkst ≤ 6 := k2
  replace L7 : n7 ≤ 140737488355328 := L7
  replace wb : 1 ≤ wkn d wkst ∧ wkn d wkst ≤ 53 := wb
  replace ws : wks (wky d wkst) wkst = 52 ∨ wks (wky d wkst) wkst = 53 := ws
  have E7 := Lib.hid (show n7 = week.length from H7.out.1)
  have B1 := alloc_below w (.cells #[.int .i64 freq, .int .i64 itv, .int .i64 cnt, .int .i64 til, .int .i64 wkst, .bool ends, .slice a6 n6 c6, .slice a7 n7 c7, .slice a8 n8 c8, .slice a9 n9 c9, .slice a10 n10 c10, .slice a11 n11 c11, .slice a12 n12 c12, .slice a13 n13 c13, .slice a14 n14 c14] 25)
  by_cases c : n7 = 0
  · have G := Lib.hid (show true = x by rw [← hx]; unfold weekB; rw [if_pos (List.length_eq_zero_iff.1 (by rw [← E7.out]; exact c))])
    clear hx
    have t1 : ((n7 : Int) == 0) = true := by rw [beq_iff_eq]; omega
    show Calls Tryz.prog 54 #[.agg #[.int .i64 freq, .int .i64 itv, .int .i64 cnt, .int .i64 til, .int .i64 wkst, .bool ends, .slice a6 n6 c6, .slice a7 n7 c7, .slice a8 n8 c8, .slice a9 n9 c9, .slice a10 n10 c10, .slice a11 n11 c11, .slice a12 n12 c12, .slice a13 n13 c13, .slice a14 n14 c14], .int .i64 d] w _
    go_enter Tryz.func54, Tryz.ntmps54
    go_wp2
    go_ret
    exact ⟨ret_bool G.out, alloc_below _ _⟩
  · have t1 : ((n7 : Int) == 0) = false := by rw [beq_eq_false_iff_ne]; omega
    have NE : week ≠ [] := fun e => c (by rw [E7.out, e]; rfl)
    have hx2 : (isyear (wky d wkst) && hasB week (wkn d wkst) (wkn d wkst - wks (wky d wkst) wkst - 1)) = x := by rw [← hx]; unfold weekB; rw [if_neg NE]
    clear hx NE
    by_cases y : 1 ≤ wky d wkst ∧ wky d wkst ≤ 9999
    · have G := Lib.hid (show hasB week (wkn d wkst) (wkn d wkst - wks (wky d wkst) wkst - 1) = x by rw [← hx2, show isyear (wky d wkst) = true from decide_eq_true y, Bool.true_and])
      clear hx2 c
      obtain ⟨y1, y2⟩ := y
      show Calls Tryz.prog 54 #[.agg #[.int .i64 freq, .int .i64 itv, .int .i64 cnt, .int .i64 til, .int .i64 wkst, .bool ends, .slice a6 n6 c6, .slice a7 n7 c7, .slice a8 n8 c8, .slice a9 n9 c9, .slice a10 n10 c10, .slice a11 n11 c11, .slice a12 n12 c12, .slice a13 n13 c13, .slice a14 n14 c14], .int .i64 d] w _
      go_enter Tryz.func54, Tryz.ntmps54
      go_wp2_with (first
        | (go_at_call 29; refine (week_yes _ _ _ d1 d2 k1 k2).mono ?_; rintro e w' ⟨rfl, rfl⟩)
        | (go_at_call 30; refine (weeks_yes _ _ _ y1 y2 k1 k2).mono ?_; rintro e w' ⟨rfl, rfl⟩))
      refine (has_any _ a7 n7 c7 week _ _ (H7.out.below B1) (by omega)).mono ?_
      rintro e w2 ⟨rfl, b2⟩
      go_wp2
      go_ret
      exact ⟨ret_bool G.out, B1.trans (b2.mono B1.size)⟩
    · have G := Lib.hid (show false = x by rw [← hx2, show isyear (wky d wkst) = false from decide_eq_false y, Bool.false_and])
      clear hx2 c
      have Y := Lib.hid (show ¬ (1 ≤ wky d wkst ∧ wky d wkst ≤ 9999 ∧ 0 ≤ wkst ∧ wkst ≤ 6) from fun g => y ⟨g.1, g.2.1⟩)
      clear y
      show Calls Tryz.prog 54 #[.agg #[.int .i64 freq, .int .i64 itv, .int .i64 cnt, .int .i64 til, .int .i64 wkst, .bool ends, .slice a6 n6 c6, .slice a7 n7 c7, .slice a8 n8 c8, .slice a9 n9 c9, .slice a10 n10 c10, .slice a11 n11 c11, .slice a12 n12 c12, .slice a13 n13 c13, .slice a14 n14 c14], .int .i64 d] w _
      go_enter Tryz.func54, Tryz.ntmps54
      go_wp2_with (first
        | (go_at_call 29; refine (week_yes _ _ _ d1 d2 k1 k2).mono ?_; rintro e w' ⟨rfl, rfl⟩)
        | (go_at_call 30; refine (weeks_no _ _ _ Y.out).mono ?_; rintro e w' ⟨rfl, rfl⟩))
      go_ret
      exact ⟨ret_bool G.out, B1⟩
theorem dom_len (d : Int) : 1 ≤ dom d ∧ dom d ≤ len (yr d) (mon d) := by
  have := mon_bd d
  have e : dom d = d - ny (yr d) - ah (yr d) (mon d) + 1 := rfl
  omega
theorem yd_bd (d : Int) : 1 ≤ yd d ∧ yd d ≤ ylen (yr d) := by
  have := in_year d
  unfold yd ylen
  omega
theorem ylen_bd (y : Int) : 365 ≤ ylen y ∧ ylen y ≤ 366 := by have := lp_01 y; unfold ylen; omega
set_option maxRecDepth 100000 in
set_option maxHeartbeats 4000000 in
/-- days.fitsPlaces -/
theorem fitsPlaces_any (w : World) (S : RS) (r : Ru) (d : Int) (h : RuAt w S r) :
    Calls Tryz.prog 55 #[S.val r, .agg (dcells d)] w fun e w' => e = .returned (.bool (placeB r d)) ∧ Below w.heap.size w w' := by
  obtain ⟨x, hx⟩ : ∃ x, placeB r d = x := ⟨_, rfl⟩
  rw [hx]
  have H8 := Lib.hid h.h8
  have H9 := Lib.hid h.h9
  have L8 := h.l8
  have L9 := h.l9
  clear h
  have m1 := dom_len d
  have m2 := yd_bd d
  have m3 := ylen_bd (yr d)
  have m4 := len_bd (yr d) (mon d)
  obtain ⟨a6, n6, c6, a7, n7, c7, a8, n8, c8, a9, n9, c9, a10, n10, c10, a11, n11, c11, a12, n12, c12, a13, n13, c13, a14, n14, c14⟩ := S
  obtain ⟨freq, itv, cnt, til, wkst, ends, mon, week, yday, mday, day, hour, minu, sec, pos⟩ := r
  replace L8 : n8 ≤ 140737488355328 := L8
  replace L9 : n9 ≤ 140737488355328 := L9
  have hx2 : (hasB yday (yd d) (yd d - ylen (yr d) - 1) && hasB mday (dom d) (dom d - len (yr d) (Cv.mon d) - 1)) = x := hx
  clear hx
  have B1 := (alloc_below w (.cells #[.int .i64 freq, .int .i64 itv, .int .i64 cnt, .int .i64 til, .int .i64 wkst, .bool ends, .slice a6 n6 c6, .slice a7 n7 c7, .slice a8 n8 c8, .slice a9 n9 c9, .slice a10 n10 c10, .slice a11 n11 c11, .slice a12 n12 c12, .slice a13 n13 c13, .slice a14 n14 c14] 25)).trans ((alloc_below (w.alloc (.cells #[.int .i64 freq, .int .i64 itv, .int .i64 cnt, .int .i64 til, .int .i64 wkst, .bool ends, .slice a6 n6 c6, .slice a7 n7 c7, .slice a8 n8 c8, .slice a9 n9 c9, .slice a10 n10 c10, .slice a11 n11 c11, .slice a12 n12 c12, .slice a13 n13 c13, .slice a14 n14 c14] 25)) (.cells #[.int .i64 (yr d), .int .i64 (Cv.mon d), .int .i64 (dom d), .int .i64 (yd d), .int .i64 (wd d)] 65)).mono (by simp))
  obtain ⟨p, hp⟩ : ∃ p, hasB yday (yd d) (yd d - ylen (yr d) - 1) = p := ⟨_, rfl⟩
  rw [hp] at hx2
  have P1 := Lib.hid hp
  clear hp
  have X2 := Lib.hid hx2
  clear hx2
  show Calls Tryz.prog 55 #[.agg #[.int .i64 freq, .int .i64 itv, .int .i64 cnt, .int .i64 til, .int .i64 wkst, .bool ends, .slice a6 n6 c6, .slice a7 n7 c7, .slice a8 n8 c8, .slice a9 n9 c9, .slice a10 n10 c10, .slice a11 n11 c11, .slice a12 n12 c12, .slice a13 n13 c13, .slice a14 n14 c14], .agg #[.int .i64 (yr d), .int .i64 (Cv.mon d), .int .i64 (dom d), .int .i64 (yd d), .int .i64 (wd d)]] w _
  clear B1
  cases p
  · have G := Lib.hid (show false = x by rw [← X2.out]; rfl)
    clear X2
    go_enter Tryz.func55, Tryz.ntmps55
    go_upto_region 1 with fail
    have B0 := two_belowB w (.cells #[.int .i64 freq, .int .i64 itv, .int .i64 cnt, .int .i64 til, .int .i64 wkst, .bool ends, .slice a6 n6 c6, .slice a7 n7 c7, .slice a8 n8 c8, .slice a9 n9 c9, .slice a10 n10 c10, .slice a11 n11 c11, .slice a12 n12 c12, .slice a13 n13 c13, .slice a14 n14 c14] 25) (.cells #[.int .i64 (yr d), .int .i64 (Cv.mon d), .int .i64 (dom d), .int .i64 (yd d), .int .i64 (wd d)] 65)
    have XR := two_boxA w #[.int .i64 freq, .int .i64 itv, .int .i64 cnt, .int .i64 til, .int .i64 wkst, .bool ends, .slice a6 n6 c6, .slice a7 n7 c7, .slice a8 n8 c8, .slice a9 n9 c9, .slice a10 n10 c10, .slice a11 n11 c11, .slice a12 n12 c12, .slice a13 n13 c13, .slice a14 n14 c14] #[.int .i64 (yr d), .int .i64 (Cv.mon d), .int .i64 (dom d), .int .i64 (yd d), .int .i64 (wd d)] 25 65
    have XD := two_boxB w #[.int .i64 freq, .int .i64 itv, .int .i64 cnt, .int .i64 til, .int .i64 wkst, .bool ends, .slice a6 n6 c6, .slice a7 n7 c7, .slice a8 n8 c8, .slice a9 n9 c9, .slice a10 n10 c10, .slice a11 n11 c11, .slice a12 n12 c12, .slice a13 n13 c13, .slice a14 n14 c14] #[.int .i64 (yr d), .int .i64 (Cv.mon d), .int .i64 (dom d), .int .i64 (yd d), .int .i64 (wd d)] 25 65
    have SR := two_size w (.cells #[.int .i64 freq, .int .i64 itv, .int .i64 cnt, .int .i64 til, .int .i64 wkst, .bool ends, .slice a6 n6 c6, .slice a7 n7 c7, .slice a8 n8 c8, .slice a9 n9 c9, .slice a10 n10 c10, .slice a11 n11 c11, .slice a12 n12 c12, .slice a13 n13 c13, .slice a14 n14 c14] 25) (.cells #[.int .i64 (yr d), .int .i64 (Cv.mon d), .int .i64 (dom d), .int .i64 (yd d), .int .i64 (wd d)] 65)
    generalize (w.alloc (.cells #[.int .i64 freq, .int .i64 itv, .int .i64 cnt, .int .i64 til, .int .i64 wkst, .bool ends, .slice a6 n6 c6, .slice a7 n7 c7, .slice a8 n8 c8, .slice a9 n9 c9, .slice a10 n10 c10, .slice a11 n11 c11, .slice a12 n12 c12, .slice a13 n13 c13, .slice a14 n14 c14] 25)).alloc (.cells #[.int .i64 (yr d), .int .i64 (Cv.mon d), .int .i64 (dom d), .int .i64 (yd d), .int .i64 (wd d)] 65) = w0 at *
    have q8 := Past.at_ (W := w0) (by omega) (show w0.cell? ⟨w.heap.size, 8, none⟩ = some (.slice a8 n8 c8) from XR.at_ 8 _ rfl)
    have d20 := Past.at_ (W := w0) (by omega) (show w0.cell? ⟨w.heap.size + 1, 0, none⟩ = some (.int .i64 (yr d)) from XD.at_ 0 _ rfl)
    have d23 := Past.at_ (W := w0) (by omega) (show w0.cell? ⟨w.heap.size + 1, 3, none⟩ = some (.int .i64 (yd d)) from XD.at_ 3 _ rfl)
    have H8q := Lib.hid (fun v : In (Past w0) => (H8.out.below B0).past v)
    have H9q := Lib.hid (fun v : In (Past w0) => (H9.out.below B0).past v)
    have L8m : n8 ≤ 9223372036854775807 := by omega
    have L9m : n9 ≤ 9223372036854775807 := by omega
    clear XR XD SR
    have p9 : Past w0 w0 := Below.refl _ _
    have hne : Nonempty (In (Past w0)) := ⟨⟨_, p9⟩⟩
    refine wp_region_class (Past w0) (by kernel_rfl) (by kernel_rfl) (Past.drew' p9) ?_
    try simp only [List.append]
    repeat (any_goals (first | go_big_quiet_step ((first | (with_reducible refine quiet_eq (ylen_any (yr d) _)) | (with_reducible refine quiet_cl Past.on (has_is _ a8 n8 c8 yday _ _ (H8q.out _) L8m _ P1.out)))) | quiet_step ((first | (with_reducible refine quiet_eq (ylen_any (yr d) _)) | (with_reducible refine quiet_cl Past.on (has_is _ a8 n8 c8 yday _ _ (H8q.out _) L8m _ P1.out))))))
    refine wpQuiet_nil ?_
    rintro _ ⟨⟨w2, hb⟩, rfl⟩
    replace hb : Below _ _ _ := hb
    go_wp2
    go_ret
    exact ⟨ret_bool G.out, B0.trans (hb.mono B0.size)⟩
  · have G := Lib.hid (show hasB mday (dom d) (dom d - len (yr d) (Cv.mon d) - 1) = x by rw [← X2.out]; rfl)
    clear X2
    go_enter Tryz.func55, Tryz.ntmps55
    go_upto_region 1 with fail
    have B0 := two_belowB w (.cells #[.int .i64 freq, .int .i64 itv, .int .i64 cnt, .int .i64 til, .int .i64 wkst, .bool ends, .slice a6 n6 c6, .slice a7 n7 c7, .slice a8 n8 c8, .slice a9 n9 c9, .slice a10 n10 c10, .slice a11 n11 c11, .slice a12 n12 c12, .slice a13 n13 c13, .slice a14 n14 c14] 25) (.cells #[.int .i64 (yr d), .int .i64 (Cv.mon d), .int .i64 (dom d), .int .i64 (yd d), .int .i64 (wd d)] 65)
    have XR := two_boxA w #[.int .i64 freq, .int .i64 itv, .int .i64 cnt, .int .i64 til, .int .i64 wkst, .bool ends, .slice a6 n6 c6, .slice a7 n7 c7, .slice a8 n8 c8, .slice a9 n9 c9, .slice a10 n10 c10, .slice a11 n11 c11, .slice a12 n12 c12, .slice a13 n13 c13, .slice a14 n14 c14] #[.int .i64 (yr d), .int .i64 (Cv.mon d), .int .i64 (dom d), .int .i64 (yd d), .int .i64 (wd d)] 25 65
    have XD := two_boxB w #[.int .i64 freq, .int .i64 itv, .int .i64 cnt, .int .i64 til, .int .i64 wkst, .bool ends, .slice a6 n6 c6, .slice a7 n7 c7, .slice a8 n8 c8, .slice a9 n9 c9, .slice a10 n10 c10, .slice a11 n11 c11, .slice a12 n12 c12, .slice a13 n13 c13, .slice a14 n14 c14] #[.int .i64 (yr d), .int .i64 (Cv.mon d), .int .i64 (dom d), .int .i64 (yd d), .int .i64 (wd d)] 25 65
    have SR := two_size w (.cells #[.int .i64 freq, .int .i64 itv, .int .i64 cnt, .int .i64 til, .int .i64 wkst, .bool ends, .slice a6 n6 c6, .slice a7 n7 c7, .slice a8 n8 c8, .slice a9 n9 c9, .slice a10 n10 c10, .slice a11 n11 c11, .slice a12 n12 c12, .slice a13 n13 c13, .slice a14 n14 c14] 25) (.cells #[.int .i64 (yr d), .int .i64 (Cv.mon d), .int .i64 (dom d), .int .i64 (yd d), .int .i64 (wd d)] 65)
    generalize (w.alloc (.cells #[.int .i64 freq, .int .i64 itv, .int .i64 cnt, .int .i64 til, .int .i64 wkst, .bool ends, .slice a6 n6 c6, .slice a7 n7 c7, .slice a8 n8 c8, .slice a9 n9 c9, .slice a10 n10 c10, .slice a11 n11 c11, .slice a12 n12 c12, .slice a13 n13 c13, .slice a14 n14 c14] 25)).alloc (.cells #[.int .i64 (yr d), .int .i64 (Cv.mon d), .int .i64 (dom d), .int .i64 (yd d), .int .i64 (wd d)] 65) = w0 at *
    have q8 := Past.at_ (W := w0) (by omega) (show w0.cell? ⟨w.heap.size, 8, none⟩ = some (.slice a8 n8 c8) from XR.at_ 8 _ rfl)
    have q9 := Past.at_ (W := w0) (by omega) (show w0.cell? ⟨w.heap.size, 9, none⟩ = some (.slice a9 n9 c9) from XR.at_ 9 _ rfl)
    have d20 := Past.at_ (W := w0) (by omega) (show w0.cell? ⟨w.heap.size + 1, 0, none⟩ = some (.int .i64 (yr d)) from XD.at_ 0 _ rfl)
    have d21 := Past.at_ (W := w0) (by omega) (show w0.cell? ⟨w.heap.size + 1, 1, none⟩ = some (.int .i64 (Cv.mon d)) from XD.at_ 1 _ rfl)
    have d22 := Past.at_ (W := w0) (by omega) (show w0.cell? ⟨w.heap.size + 1, 2, none⟩ = some (.int .i64 (dom d)) from XD.at_ 2 _ rfl)
    have d23 := Past.at_ (W := w0) (by omega) (show w0.cell? ⟨w.heap.size + 1, 3, none⟩ = some (.int .i64 (yd d)) from XD.at_ 3 _ rfl)
    have H8q := Lib.hid (fun v : In (Past w0) => (H8.out.below B0).past v)
    have H9q := Lib.hid (fun v : In (Past w0) => (H9.out.below B0).past v)
    have L8m : n8 ≤ 9223372036854775807 := by omega
    have L9m : n9 ≤ 9223372036854775807 := by omega
    clear XR XD SR
    have p9 : Past w0 w0 := Below.refl _ _
    have hne : Nonempty (In (Past w0)) := ⟨⟨_, p9⟩⟩
    refine wp_region_class (Past w0) (by kernel_rfl) (by kernel_rfl) (Past.drew' p9) ?_
    try simp only [List.append]
    repeat (any_goals (first | go_big_quiet_step ((first | (with_reducible refine quiet_eq (ylen_any (yr d) _)) | (with_reducible refine quiet_cl Past.on (has_is _ a8 n8 c8 yday _ _ (H8q.out _) L8m _ P1.out)) | (with_reducible refine quiet_eq (length_any (yr d) (Cv.mon d) _)) | (with_reducible refine quiet_cl Past.on (has_is _ a9 n9 c9 mday _ _ (H9q.out _) L9m _ G.out)))) | quiet_step ((first | (with_reducible refine quiet_eq (ylen_any (yr d) _)) | (with_reducible refine quiet_cl Past.on (has_is _ a8 n8 c8 yday _ _ (H8q.out _) L8m _ P1.out)) | (with_reducible refine quiet_eq (length_any (yr d) (Cv.mon d) _)) | (with_reducible refine quiet_cl Past.on (has_is _ a9 n9 c9 mday _ _ (H9q.out _) L9m _ G.out))))))
    refine wpQuiet_nil ?_
    rintro _ ⟨⟨w2, hb⟩, rfl⟩
    replace hb : Below _ _ _ := hb
    go_wp2
    go_ret
    exact ⟨rfl, B0.trans (hb.mono B0.size)⟩
end Go.Proofs.YtkkmhjplfpdhcaaGreatDoor.Dd
